"""Books of rules, calls, and which kinds fit a call and are nearer than others."""

from bestcalls.errors import NoBook, NoCall
from bestcalls.same import products
from bestcalls.webs import check_kinds, copy_of_web, is_name, is_web, is_whole, names_in, names_of, roof_of, roofs_of

MOST_PLACES = 3
MOST_RULES = 12
MOST_CALLS = 216


def count_calls(web, places):
    """The number of calls of names."""
    count = 1
    for place in range(places):
        count *= len(web)
    return count


def calls_of_names(web, places):
    """All calls of names, by the web's order place by place, the last place changing first."""
    return products([names_of(web)] * places)


def has_room(web, places):
    """Whether something is a number of places that a book of the web may have."""
    if not is_whole(places) or not 1 <= places <= MOST_PLACES:
        return False
    return count_calls(web, places) <= MOST_CALLS


def are_kinds(known, places, thing):
    """Whether something is a tuple of as many known names as there are places."""
    if not isinstance(thing, tuple) or len(thing) != places:
        return False
    return all([name in known for name in thing])


def is_rule_behind(known, places, ahead, thing):
    """Whether something is (name, kinds) of a rule that may stand behind the rules ahead."""
    if not isinstance(thing, tuple) or len(thing) != 2:
        return False
    name, kinds = thing
    if not is_name(name) or name in [taken for taken, others in ahead]:
        return False
    if not are_kinds(known, places, kinds):
        return False
    return kinds not in [others for taken, others in ahead]


def book_of(web, places, rules):
    """A book with lists of its own; refused with NoBook."""
    if not is_web(web) or not has_room(web, places) or not isinstance(rules, list):
        raise NoBook(None)
    known = names_of(web)
    ahead = []
    for number, rule in enumerate(rules):
        if number >= MOST_RULES or not is_rule_behind(known, places, ahead, rule):
            raise NoBook(number)
        ahead.append(rule)
    return (copy_of_web(web), places, ahead)


def is_book(thing):
    """Whether something, whatever it is, is a book."""
    if not isinstance(thing, tuple) or len(thing) != 3:
        return False
    web, places, rules = thing
    try:
        book_of(web, places, rules)
    except NoBook:
        return False
    return True


def names_in_call(call):
    """The names in the arms of a call, as they are handed in."""
    return [name for arm in call for name in names_in(arm)]


def check_call(web, places, call):
    """Refuse a call with NoCall for another number of arms, then with NoKind."""
    if len(call) != places:
        raise NoCall(None)
    check_kinds(web, names_in_call(call))


def roofs_in_call(roofs, call):
    """The roofs of a call's arms, place by place."""
    return [roof_of(roofs, arm) for arm in call]


def fits_under(kinds, call_roofs):
    """Whether kinds fit a call that has these roofs at its places."""
    return all([kind in roof for kind, roof in zip(kinds, call_roofs)])


def is_nearer(roofs, one, other):
    """Whether one tuple of kinds is nearer than the other, by the roofs of the kinds."""
    return one != other and all([high in roofs[low] for low, high in zip(one, other)])


def fits(web, kinds, call):
    """Whether the kinds fit the call."""
    if len(call) != len(kinds):
        raise NoCall(None)
    check_kinds(web, list(kinds) + names_in_call(call))
    return fits_under(kinds, roofs_in_call(roofs_of(web), call))


def nearer(web, one, other):
    """Whether the one tuple of kinds is nearer than the other; it has as many then."""
    check_kinds(web, list(one) + list(other))
    return len(one) == len(other) and is_nearer(roofs_of(web), one, other)
