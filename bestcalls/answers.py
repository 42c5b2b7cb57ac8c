"""The rules that fit a call, the nearest ones of these, and the answer."""

from bestcalls.books import check_call, fits_under, is_nearer, roofs_in_call
from bestcalls.webs import roofs_of


def rules_that_fit(book, call):
    """The rules (name, kinds) that fit the call; it is refused with NoCall, then with NoKind."""
    web, places, rules = book
    check_call(web, places, call)
    call_roofs = roofs_in_call(roofs_of(web), call)
    return [rule for rule in rules if fits_under(rule[1], call_roofs)]


def nearest_of(roofs, rules):
    """Those of the rules than which none of them is nearer."""
    return [rule for rule in rules if not any([is_nearer(roofs, kinds, rule[1]) for name, kinds in rules])]


def rule_names(rules):
    """The names of the rules, in their order."""
    return [name for name, kinds in rules]


def answer_by(names):
    """The answer of a call whose nearest rules have these names."""
    if not names:
        return ("none",)
    if len(names) == 1:
        return ("rule", names[0])
    return ("quarrel", tuple(names))


def answer_among(roofs, rules):
    """The answer where just these rules fit."""
    return answer_by(rule_names(nearest_of(roofs, rules)))


def fitting(book, call):
    """The names of the rules that fit the call, in the book's order."""
    return rule_names(rules_that_fit(book, call))


def nearest(book, call):
    """The names of the nearest rules for the call, in the book's order."""
    rules = rules_that_fit(book, call)
    return rule_names(nearest_of(roofs_of(book[0]), rules))


def answer_of(book, call):
    """The answer: a rule, a quarrel or none."""
    return answer_by(nearest(book, call))
