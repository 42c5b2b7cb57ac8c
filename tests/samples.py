"""Sample programs at the edges that the document names, for the walker, the machine and the texts."""

import itertools

from bestcalls.errors import CallError

MOST = 10 ** 30 - 1
WEB = [("a", []), ("b", ["a"]), ("c", ["a"]), ("d", ["b", "c"]), ("e", [])]

# Onward: from low to left at (d, a), from lowest to a quarrel at (d, d), from left and right to far, from far to none.
ONWARD = (WEB, [
    ("do", 2, [
        ("far", ("a", "a"), [("say", 100), ("onward",), ("tell", 0)]), ("left", ("b", "a"), [("onward",)]),
        ("right", ("a", "c"), [("say", 9), ("onward",)]), ("low", ("d", "a"), [("onward",), ("say", 1000)]),
        ("lowest", ("d", "d"), [("onward",)]), ("aside", ("e", "d"), [])]),
    ("empty", 1, [])])

# Without end.
LOOP = (WEB, [("do", 1, [("r", ("a",), [("call", "do", [("own", 0)])])])])


def outcome(deed, *things):
    """What a deed tells, or the name of the class and the `at` of its refusal."""
    try:
        return deed(*things)
    except CallError as refusal:
        return (type(refusal).__name__, refusal.at)


# A ladder of forty rungs: ten rules in each of four deeds, each of which calls the next.
RUNGS = [(deed, kinds) for deed in ("da", "db", "dc", "dd")
         for kinds in list(itertools.product("pqrs", repeat=2))[:10]]
LADDER_WEB = [("t", []), ("z", [])] + [(name, ["t"]) for name in "pqrs"]


def rung_things(number):
    """The things with which the run of this number in a ladder begins."""
    return [(kind, number) for kind in RUNGS[number][1]]


def rung_call(number):
    return ("call", RUNGS[number][0], [("new", kind, number) for kind in RUNGS[number][1]])


def ladder(last, extras=(), calls=1):
    """The ladder with these steps in its last rule, (r, q), and these rules beside it; the first calls as often as told."""
    steps = [[rung_call(1)] * calls] + [[rung_call(number + 1)] for number in range(1, 39)] + [last]
    rules = [("r" + "abcdefghij"[number % 10], RUNGS[number][1], steps[number]) for number in range(40)]
    deeds = [(name, 2, rules[10 * number:10 * number + 10]) for number, name in enumerate(("da", "db", "dc", "dd"))]
    deeds[3][2].extend(extras)
    return (LADDER_WEB, deeds)


def calls(deed, count):
    return [("call", deed, [("own", 0)])] * count


def says(count):
    return [("say", 1)] * count


def long_program(ahead=(), behind=(), last=4):
    """Just four hundred steps, with nothing ahead or behind in the first run: 5 + 5 * 4 + 15 * 5 + 75 * 4."""
    return (WEB, [
        ("one", 1, [("r", ("a",), list(ahead) + calls("two", 5) + list(behind))]),
        ("two", 1, [("r", ("a",), calls("three", 3) + says(1))]),
        ("three", 1, [("r", ("a",), calls("four", 5))]),
        ("four", 1, [("r", ("a",), says(last)), ("s", ("b",), []), ("t", ("c",), [])])])


def long_and_deep(count):
    """With four says in the first rule the fortieth run's call is step 401, and it would be the run too many."""
    return (WEB, [
        ("do", 1, [
            ("first", ("b",), calls("mid", 1) + says(count) + [("call", "do", [("new", "a", 0)])]),
            ("loop", ("a",), says(5) + calls("do", 1))]),
        ("mid", 1, [("r", ("a",), calls("low", 5) + says(1))]),
        ("low", 1, [("r", ("a",), calls("leaf", 5) + says(1))]),
        ("leaf", 1, [("r", ("a",), says(5))])])


# As large as a program can be: names of eight letters, four elders, twelve rules, six steps, thirty figures.
LONG_NAMES = ["kindabc" + letter for letter in "abcdef"]
FULL = ([(name, LONG_NAMES[:number][-4:]) for number, name in enumerate(LONG_NAMES)], [
    ("deedabc" + letter, 3, [
        ("ruleab" + "abcdefghijkl"[number] + letter, kinds, [
            ("call", "deedabc" + "abcd"[step % 4], [("new", name, -MOST) for name in LONG_NAMES[step % 4:][:3]])
            for step in range(6)])
        for number, kinds in enumerate(list(itertools.product(LONG_NAMES, repeat=3))[5:][::17][:12])])
    for letter in "abcd"])
