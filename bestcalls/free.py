"""Whether a book is free of quarrels, and the least call that quarrels."""

from bestcalls.answers import nearest
from bestcalls.books import is_nearer
from bestcalls.same import products
from bestcalls.sorts import arms_of, meets_among


def pairs_apart(roofs, rules):
    """Each two rules neither of which is nearer than the other, by the order of the one and then of the other."""
    pairs = [(one, other) for number, one in enumerate(rules) for other in rules[number + 1:]]
    return [
        (one, other) for one, other in pairs
        if not is_nearer(roofs, one[1], other[1]) and not is_nearer(roofs, other[1], one[1])
    ]


def meeting_calls(arms, one, other):
    """The calls that have at each place one of the meets of the two kinds there, the last place changing first."""
    return products([meets_among(arms, kind, mate) for kind, mate in zip(one, other)])


def quarrelling_calls(arms, rules):
    """All calls at meets of two rules that quarrel; each call that quarrels has one within it."""
    taken = {kinds: True for name, kinds in rules}
    calls = {}
    for one, other in pairs_apart(arms, rules):
        for call in meeting_calls(arms, one[1], other[1]):
            # Just a rule with the call's arms as its kinds is nearer than both there.
            if call not in taken:
                calls[call] = True
    return list(calls)


def weight_of(arms, ranks, call):
    """What makes a call less than another one: kinds above, then kinds to come, then the order of its arms."""
    kinds_above = sum([len(arms[arm]) for arm in call])
    to_come = len([arm for arm in call if isinstance(arm, tuple)])
    return (kinds_above, to_come, [ranks[arm] for arm in call])


def quarrel(book, sort):
    """The least call of the sort that quarrels, with the names of its nearest rules, or None."""
    web, places, rules = book
    arms = arms_of(web, sort)
    calls = quarrelling_calls(arms, rules)
    if not calls:
        return None
    ranks = {arm: rank for rank, arm in enumerate(arms)}
    least = min(calls, key=lambda call: weight_of(arms, ranks, call))
    return (least, tuple(nearest(book, least)))
