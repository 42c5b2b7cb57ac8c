"""Whole numbers, figures, names, webs of kinds, and what stands on what."""

from bestcalls.errors import NoKind, NoWeb

MOST_LETTERS = 8
MOST_KINDS = 10
MOST_ELDERS = 4
FIGURE_BOUND = 10 ** 30


def is_whole(thing):
    """Whether something is an int that is no truth."""
    return isinstance(thing, int) and not isinstance(thing, bool)


def is_figure(thing):
    """Whether something is a whole number of at most thirty figures."""
    return is_whole(thing) and abs(thing) < FIGURE_BOUND


def is_name(thing):
    """Whether something is a text of one to eight small letters."""
    if not isinstance(thing, str) or not 1 <= len(thing) <= MOST_LETTERS:
        return False
    return all(["a" <= sign <= "z" for sign in thing])


def are_unlike_of(known, things):
    """Whether all things, whatever they are, are among the known names, none of them twice."""
    if not all([thing in known for thing in things]):
        return False
    # Only names are left here, so that all of them can be members of a set.
    return len(set(things)) == len(things)


def is_kind_behind(ahead, thing):
    """Whether something is (name, elders) of a kind that may stand behind the names ahead."""
    if not isinstance(thing, tuple) or len(thing) != 2:
        return False
    name, elders = thing
    if not is_name(name) or name in ahead:
        return False
    if not isinstance(elders, list) or len(elders) > MOST_ELDERS:
        return False
    return are_unlike_of(ahead, elders)


def copy_of_web(web):
    """The same web with lists of its own."""
    return [(name, list(elders)) for name, elders in web]


def web_of(thing):
    """A web with lists of its own; refused with NoWeb."""
    if not isinstance(thing, list) or not thing:
        raise NoWeb(None)
    ahead = []
    for number, entry in enumerate(thing):
        if number >= MOST_KINDS or not is_kind_behind(ahead, entry):
            raise NoWeb(number)
        ahead.append(entry[0])
    return copy_of_web(thing)


def is_web(thing):
    """Whether something, whatever it is, is a web."""
    try:
        web_of(thing)
    except NoWeb:
        return False
    return True


def names_of(web):
    """The names of the kinds, in the web's order."""
    return [name for name, elders in web]


def names_in(arm):
    """The names in an arm, as they are handed in."""
    if isinstance(arm, tuple):
        return list(arm)
    return [arm]


def check_kinds(web, names):
    """Refuse with NoKind, at the first of the names by which no kind stands."""
    known = names_of(web)
    for name in names:
        if name not in known:
            raise NoKind(name)


def roofs_of(web):
    """For each kind its roof: a dict with all the names above it."""
    roofs = {}
    for name, elders in web:
        roof = {name: True}
        for elder in elders:
            roof.update(roofs[elder])
        roofs[name] = roof
    return roofs


def roof_of(roofs, arm):
    """The roof of an arm: a dict with all the names above it."""
    roof = {}
    for name in names_in(arm):
        roof.update(roofs[name])
    return roof


def above(web, arm):
    """The kinds that the arm stands on, in the web's order."""
    check_kinds(web, names_in(arm))
    roof = roof_of(roofs_of(web), arm)
    return [name for name in names_of(web) if name in roof]


def beneath(web, kind):
    """The kinds that stand on the kind, in the web's order."""
    check_kinds(web, [kind])
    roofs = roofs_of(web)
    return [name for name in names_of(web) if kind in roofs[name]]


def stands(web, kind, other):
    """Whether the kind stands on the other one."""
    check_kinds(web, [kind, other])
    return other in roofs_of(web)[kind]
