"""The changes of a hall's program: each tells the program behind it, and leaves the one ahead as it was."""

from bestcalls.answers import answer_of
from bestcalls.books import MOST_CALLS, MOST_RULES, count_calls
from bestcalls.errors import Full, Needed, NoCall, NoName, NoRule, NoStep, Taken, Twice
from bestcalls.programs import MOST_DEEDS, MOST_STEPS, book_in, copy_of_step, deed_in, is_step, sizes_of
from bestcalls.same import products
from bestcalls.webs import MOST_ELDERS, MOST_KINDS, check_kinds, is_name, names_of


def check_name(thing):
    """Refuse what is no name with NoName."""
    if not is_name(thing):
        raise NoName(thing)


def first_program(kind):
    """The program with which a hall begins: one kind, without elders, and no deeds."""
    check_name(kind)
    return ([(kind, [])], [])


def put(entries, entry):
    """The entries with this one, in the place of the one of its name or else behind all."""
    if entry[0] in [other[0] for other in entries]:
        return [entry if other[0] == entry[0] else other for other in entries]
    return entries + [entry]


def without(entries, name):
    """The entries but that of this name."""
    return [other for other in entries if other[0] != name]


def check_elders(web, name, elders):
    """Refuse elders of the kind of this name with NoKind, then with Twice."""
    names = names_of(web)
    place = names.index(name) if name in names else len(names)
    check_kinds(web[:place], elders)
    for number, elder in enumerate(elders):
        if elder in elders[:number]:
            raise Twice(elder)


def with_kind(program, name, elders):
    """The program with the kind put in or told anew."""
    web, deeds = program
    check_name(name)
    behind = put(web, (name, list(elders)))
    if len(behind) > MOST_KINDS or len(elders) > MOST_ELDERS:
        raise Full(None)
    if any([count_calls(behind, places) > MOST_CALLS for deed, places in sizes_of(deeds)]):
        raise Full(None)
    check_elders(web, name, elders)
    return (behind, deeds)


def with_deed(program, name, places):
    """The program with the deed put in."""
    web, deeds = program
    check_name(name)
    if name in [deed for deed, size in sizes_of(deeds)]:
        raise Taken(name)
    if len(deeds) >= MOST_DEEDS or count_calls(web, places) > MOST_CALLS:
        raise Full(None)
    return (web, deeds + [(name, places, [])])


def check_rule(web, places, others, kinds):
    """Refuse the kinds of a rule, beside the other rules of its deed, with Full, NoCall, NoKind, then with Twice."""
    if len(others) >= MOST_RULES:
        raise Full(None)
    if len(kinds) != places:
        raise NoCall(None)
    check_kinds(web, kinds)
    for name, taken, steps in others:
        if taken == kinds:
            raise Twice(name)


def check_steps(program, places, steps):
    """Refuse the steps of a rule of a deed with so many places with NoStep, at the first that is none."""
    known = names_of(program[0])
    sizes = sizes_of(program[1])
    for number, step in enumerate(steps):
        if number >= MOST_STEPS or not is_step(known, sizes, places, step):
            raise NoStep(number)


def with_rule(program, deed, name, kinds, steps):
    """The program with the rule of the deed put in or told anew."""
    web, deeds = program
    places, rules = deed_in(program, deed)
    check_name(name)
    check_rule(web, places, without(rules, name), tuple(kinds))
    check_steps(program, places, steps)
    rule = (name, tuple(kinds), [copy_of_step(step) for step in steps])
    return (web, put(deeds, (deed, places, put(rules, rule))))


def without_rule(program, deed, name):
    """The program with the rule of the deed taken out."""
    web, deeds = program
    places, rules = deed_in(program, deed)
    if name not in [other for other, kinds, steps in rules]:
        raise NoRule(name)
    return (web, put(deeds, (deed, places, without(rules, name))))


def new_kinds(steps):
    """The kinds of the new things that the steps pick."""
    return [pick[1] for step in steps if step[0] == "call" for pick in step[2] if pick[0] == "new"]


def check_needed(program, name):
    """Refuse a kind that others need, or that is the only one, with Needed."""
    web, deeds = program
    for kind, elders in web:
        if name in elders:
            raise Needed(kind)
    for deed, places, rules in deeds:
        for rule, kinds, steps in rules:
            if name in kinds or name in new_kinds(steps):
                raise Needed((deed, rule))
    if len(web) == 1:
        raise Needed(None)


def without_kind(program, name):
    """The program with the kind taken out."""
    web, deeds = program
    check_kinds(web, [name])
    check_needed(program, name)
    return (without(web, name), deeds)


def altered_in(one, other):
    """A list of (call, answer ahead, answer behind) where these are unlike, by the books of a deed ahead and behind."""
    if one == other:
        return []
    names = [name for name in names_of(other[0]) if name in names_of(one[0])]
    told = [(call, answer_of(one, call), answer_of(other, call)) for call in products([names] * other[1])]
    return [(call, ahead, behind) for call, ahead, behind in told if ahead != behind]


def altered(ahead, behind):
    """A list of (deed, call, answer ahead, answer behind) for each call whose answers by two programs are unlike."""
    told = []
    for deed, places in sizes_of(ahead[1]):
        calls = altered_in(book_in(ahead, deed), book_in(behind, deed))
        told.extend([(deed, call, old, new) for call, old, new in calls])
    return told
