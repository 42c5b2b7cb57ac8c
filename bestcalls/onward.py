"""Onward from a rule, and the chain and the layers of a call."""

from bestcalls.answers import answer_among, answer_of, nearest_of, rule_names, rules_that_fit
from bestcalls.books import is_nearer
from bestcalls.errors import NoFit, NoRule
from bestcalls.webs import roofs_of


def onward(book, call, name):
    """The answer among the rules that fit and than which the named one is nearer."""
    web, places, rules = book
    if name not in rule_names(rules):
        raise NoRule(name)
    fit = rules_that_fit(book, call)
    if name not in rule_names(fit):
        raise NoFit(name)
    own = dict(fit)[name]
    roofs = roofs_of(web)
    return answer_among(roofs, [rule for rule in fit if is_nearer(roofs, own, rule[1])])


def chain(book, call):
    """The rules from the answer onward, and the first answer that is no rule."""
    names = []
    end = answer_of(book, call)
    while end[0] == "rule":
        names.append(end[1])
        end = onward(book, call, end[1])
    return (names, end)


def layers(book, call):
    """The rules that fit: first the nearest ones, then the nearest ones of the others, and so on."""
    left = rules_that_fit(book, call)
    roofs = roofs_of(book[0])
    told = []
    while left:
        layer = nearest_of(roofs, left)
        told.append(rule_names(layer))
        left = [rule for rule in left if rule not in layer]
    return told
