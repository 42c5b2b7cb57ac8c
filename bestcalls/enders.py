"""Enders: the calls that every ending of a book's quarrels needs as rules."""

from bestcalls.books import are_kinds, calls_of_names, fits_under, is_nearer, roofs_in_call
from bestcalls.webs import names_of, roofs_of


def kinds_that_fit(roofs, laid, call):
    """Those of the laid tuples of kinds that fit the call."""
    call_roofs = roofs_in_call(roofs, call)
    return [kinds for kinds in laid if fits_under(kinds, call_roofs)]


def are_at_odds(roofs, fit):
    """Whether two or more are nearest where just these tuples of kinds fit."""
    if not fit:
        return False
    # If just one is nearest, it is nearer than all others, so the way from nearer to nearer ends at it.
    low = fit[0]
    for kinds in fit:
        if is_nearer(roofs, kinds, low):
            low = kinds
    return any([kinds != low and not is_nearer(roofs, low, kinds) for kinds in fit])


def calls_by_weight(roofs, calls):
    """The calls of names, those with fewer kinds above their arms first, else as they were."""
    return sorted(calls, key=lambda call: sum([len(roofs[name]) for name in call]))


def enders(book):
    """The enders of the book, as they come about."""
    web, places, rules = book
    roofs = roofs_of(web)
    laid = [kinds for name, kinds in rules]
    told = []
    # A rule put in changes no answer of a call that comes ahead of its own, so each call is looked at once.
    for call in calls_by_weight(roofs, calls_of_names(web, places)):
        if are_at_odds(roofs, kinds_that_fit(roofs, laid + told, call)):
            told.append(call)
    return told


def has_between(roofs, fit, kinds):
    """Whether other kinds, on which these stand, stand on all that fit these."""
    for place, kind in enumerate(kinds):
        for high in roofs[kind]:
            if high != kind and all([other[place] in roofs[high] for other in fit]):
                return True
    return False


def is_needed(roofs, ahead, kinds):
    """Whether every ending of the quarrels of those ahead needs these kinds as a rule."""
    fit = kinds_that_fit(roofs, ahead, kinds)
    return kinds not in ahead and are_at_odds(roofs, fit) and not has_between(roofs, fit, kinds)


def ends(book, thing):
    """Whether something, whatever it is, has just the enders of the book, in an order that shows it."""
    web, places, rules = book
    if not isinstance(thing, list):
        return False
    known = names_of(web)
    roofs = roofs_of(web)
    laid = [kinds for name, kinds in rules]
    for kinds in thing:
        if not are_kinds(known, places, kinds) or not is_needed(roofs, laid, kinds):
            return False
        laid.append(kinds)
    calls = calls_of_names(web, places)
    return not any([are_at_odds(roofs, kinds_that_fit(roofs, laid, call)) for call in calls])
