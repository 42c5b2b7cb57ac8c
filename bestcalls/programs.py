"""Programs: deeds, whose rules have steps, and the book of a deed."""

from bestcalls.books import MOST_RULES, has_room, is_rule_behind
from bestcalls.errors import NoDeed, NoProgram
from bestcalls.webs import copy_of_web, is_figure, is_name, is_web, is_whole, names_of

MOST_DEEDS = 4
MOST_STEPS = 6


def is_place(places, thing):
    """Whether something is one of so many places."""
    return is_whole(thing) and 0 <= thing < places


def is_pick(known, places, thing):
    """Whether something is a pick for a rule of a deed with so many places."""
    if not isinstance(thing, tuple) or not thing:
        return False
    if thing[0] == "own":
        return len(thing) == 2 and is_place(places, thing[1])
    if thing[0] == "new":
        return len(thing) == 3 and thing[1] in known and is_figure(thing[2])
    return False


def are_picks(known, sizes, places, deed, picks):
    """Whether there is a deed by the first thing, and the second one is a list of as many picks as it has places."""
    if not isinstance(picks, list) or (deed, len(picks)) not in sizes:
        return False
    return all([is_pick(known, places, pick) for pick in picks])


def is_step(known, sizes, places, thing):
    """Whether something is a step for a rule of a deed with so many places; sizes has (name, places) of all deeds."""
    if not isinstance(thing, tuple) or not thing:
        return False
    if thing[0] == "say":
        return len(thing) == 2 and is_figure(thing[1])
    if thing[0] == "tell":
        return len(thing) == 2 and is_place(places, thing[1])
    if thing[0] == "call":
        return len(thing) == 3 and are_picks(known, sizes, places, thing[1], thing[2])
    return thing == ("onward",)


def are_steps(known, sizes, places, thing):
    """Whether something is a list of steps as a rule may have it."""
    if not isinstance(thing, list) or len(thing) > MOST_STEPS:
        return False
    return all([is_step(known, sizes, places, step) for step in thing])


def is_full_rule_behind(known, sizes, places, ahead, thing):
    """Whether something is (name, kinds, steps) of a rule that may stand behind the rules (name, kinds) ahead."""
    if not isinstance(thing, tuple) or len(thing) != 3:
        return False
    return is_rule_behind(known, places, ahead, thing[:2]) and are_steps(known, sizes, places, thing[2])


def wrong_rule(known, sizes, places, rules):
    """The number of the first rule of a deed that is wrong, or None."""
    ahead = []
    for number, rule in enumerate(rules):
        if number >= MOST_RULES or not is_full_rule_behind(known, sizes, places, ahead, rule):
            return number
        ahead.append(rule[:2])
    return None


def is_deed_behind(web, ahead, thing):
    """Whether something is (name, places, rules), right but for its rules, that may stand behind the names ahead."""
    if not isinstance(thing, tuple) or len(thing) != 3:
        return False
    name, places, rules = thing
    return is_name(name) and name not in ahead and has_room(web, places) and isinstance(rules, list)


def sizes_of(deeds):
    """A list of (name, places) of the deeds."""
    return [(name, places) for name, places, rules in deeds]


def copy_of_step(step):
    """The same step with a list of its own."""
    if step[0] == "call":
        return ("call", step[1], list(step[2]))
    return step


def copy_of_deed(deed):
    """The same deed with lists of its own."""
    name, places, rules = deed
    return (name, places, [(rule, kinds, [copy_of_step(step) for step in steps]) for rule, kinds, steps in rules])


def program_of(web, deeds):
    """A program with lists of its own; refused with NoProgram."""
    if not is_web(web) or not isinstance(deeds, list):
        raise NoProgram(None)
    ahead = []
    for number, deed in enumerate(deeds):
        if number >= MOST_DEEDS or not is_deed_behind(web, ahead, deed):
            raise NoProgram((number, None))
        ahead.append(deed[0])
    known = names_of(web)
    sizes = sizes_of(deeds)
    for number, (name, places, rules) in enumerate(deeds):
        wrong = wrong_rule(known, sizes, places, rules)
        if wrong is not None:
            raise NoProgram((number, wrong))
    return (copy_of_web(web), [copy_of_deed(deed) for deed in deeds])


def is_program(thing):
    """Whether something, whatever it is, is a program."""
    if not isinstance(thing, tuple) or len(thing) != 2:
        return False
    web, deeds = thing
    try:
        program_of(web, deeds)
    except NoProgram:
        return False
    return True


def deed_in(program, deed):
    """The places and the rules of the deed of this name; refused with NoDeed."""
    for name, places, rules in program[1]:
        if name == deed:
            return (places, rules)
    raise NoDeed(deed)


def book_in(program, deed):
    """The book of the deed, its rules without steps; refused with NoDeed."""
    places, rules = deed_in(program, deed)
    return (copy_of_web(program[0]), places, [(name, kinds) for name, kinds, steps in rules])


def steps_in(program, deed, rule):
    """The steps of a rule of a deed, both by their names."""
    places, rules = deed_in(program, deed)
    return {name: steps for name, kinds, steps in rules}[rule]
