"""Sorts, the kinds to come of a sort, arms within arms, and meets."""

from bestcalls.webs import are_unlike_of, check_kinds, names_in, names_of, roof_of, roofs_of

MOST_BUNDLES = 2
MOST_IN_BUNDLE = 5


def is_bundle(known, thing):
    """Whether something is a list of at most five known names, unlike."""
    return isinstance(thing, list) and len(thing) <= MOST_IN_BUNDLE and are_unlike_of(known, thing)


def is_sort(web, thing):
    """Whether something, whatever it is, is a sort of the web."""
    if not isinstance(thing, list) or len(thing) > MOST_BUNDLES:
        return False
    known = names_of(web)
    return all([is_bundle(known, bundle) for bundle in thing])


def are_bundled(sort, names):
    """Whether all the names are in one of the bundles."""
    return any([all([name in bundle for name in names]) for bundle in sort])


def are_apart(roofs, names):
    """Whether none of the names, which are in the web's order, stands on another one of them."""
    # A kind stands on none behind it in the web, so only those ahead are looked for.
    return not any([high in roofs[low] for number, low in enumerate(names) for high in names[:number]])


def is_to_come(web, sort, thing):
    """Whether something, whatever it is, is a kind to come of the sort."""
    if not isinstance(thing, tuple) or len(thing) < 2:
        return False
    # Only names of kinds, unlike and in the web's order, are the same as the web's names picked by them.
    if thing != tuple([name for name in names_of(web) if name in thing]):
        return False
    return are_bundled(sort, thing) and are_apart(roofs_of(web), thing)


def is_within(roof, other_roof):
    """Whether all that is in the one roof is in the other one too."""
    return all([name in other_roof for name in roof])


def within(web, one, other):
    """Whether the one arm is within the other one."""
    check_kinds(web, names_in(one) + names_in(other))
    roofs = roofs_of(web)
    return is_within(roof_of(roofs, one), roof_of(roofs, other))


def arms_of(web, sort):
    """The roofs of the arms that may be meets, names and then pairs, in the order that meets are told in."""
    roofs = roofs_of(web)
    names = names_of(web)
    pairs = [(first, second) for number, first in enumerate(names) for second in names[number + 1:]]
    arms = dict(roofs)
    for pair in pairs:
        if are_bundled(sort, pair) and are_apart(roofs, pair):
            arms[pair] = roof_of(roofs, pair)
    return arms


def meets_among(arms, kind, other):
    """Those of the arms that stand on both kinds, and within which no other such arm is."""
    both = [arm for arm in arms if kind in arms[arm] and other in arms[arm]]
    return [arm for arm in both if not any([one != arm and is_within(arms[one], arms[arm]) for one in both])]


def meets(web, sort, kind, other):
    """The meets of two kinds: the names in the web's order, then the tuples."""
    check_kinds(web, [kind, other])
    return meets_among(arms_of(web, sort), kind, other)
