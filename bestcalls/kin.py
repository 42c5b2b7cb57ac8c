"""Roads, which show that a kind stands on another one, and hedges, which show that it does not."""

from bestcalls.webs import above, are_unlike_of, check_kinds, names_of, roofs_of


def road(web, kind, other):
    """A road from the kind to the other one, or None where it does not stand on it."""
    check_kinds(web, [kind, other])
    roofs = roofs_of(web)
    if other not in roofs[kind]:
        return None
    elders = dict(web)
    names = [kind]
    while names[-1] != other:
        # The last name stands on the other one, so one of its elders does, too.
        onto = [elder for elder in elders[names[-1]] if other in roofs[elder]]
        names.append(onto[0])
    return names


def hedge(web, kind, other):
    """A hedge between the kind and the other one, or None where it stands on it."""
    check_kinds(web, [kind, other])
    names = above(web, kind)
    if other in names:
        return None
    return names


def is_road(web, kind, other, thing):
    """Whether something, whatever it is, is a road from the kind to the other one."""
    check_kinds(web, [kind, other])
    if not isinstance(thing, list) or not thing:
        return False
    if thing[0] != kind or thing[-1] != other:
        return False
    elders = dict(web)
    # Each name is found right before its elders are looked up, so that no stranger is looked up.
    for number in range(1, len(thing)):
        if thing[number] not in elders[thing[number - 1]]:
            return False
    return True


def is_hedge(web, kind, other, thing):
    """Whether something, whatever it is, is a hedge between the kind and the other one."""
    check_kinds(web, [kind, other])
    if not isinstance(thing, list) or not are_unlike_of(names_of(web), thing):
        return False
    if kind not in thing or other in thing:
        return False
    elders = dict(web)
    return all([elder in thing for name in thing for elder in elders[name]])
