"""[28]: programs, and the book of a deed."""

import copy
import itertools
import unittest

from bestcalls.errors import NoDeed, NoProgram
from bestcalls.programs import book_in, is_program, program_of
from bestcalls.webs import is_name, is_web
from helper import ANYTHING, DIAMOND, Refusals, kind_names, loose_web, some_programs, spoiled

MOST = 10 ** 30 - 1
WEB = [("a", []), ("b", ["a"])]
STEPS = [("say", -7), ("tell", 1), ("call", "do", [("own", 0), ("new", "b", MOST)]), ("call", "go", [("own", 1)]),
         ("onward",)]
DEEDS = [("do", 2, [("r", ("a", "a"), STEPS), ("s", ("b", "a"), [])]), ("go", 1, [])]


def plain_pick(web, places, thing):
    if type(thing) is not tuple or len(thing) not in (2, 3):
        return False
    if len(thing) == 2:
        return thing[0] == "own" and type(thing[1]) is int and thing[1] in range(places)
    if thing[0] != "new" or type(thing[1]) is not str or thing[1] not in dict(web):
        return False
    return type(thing[2]) is int and len(str(abs(thing[2]))) <= 30


def plain_step(web, sizes, places, thing):
    """A step as the document says it."""
    if type(thing) is not tuple or len(thing) == 0:
        return False
    if thing == ("onward",):
        return True
    if thing[0] == "say" and len(thing) == 2:
        return type(thing[1]) is int and len(str(abs(thing[1]))) <= 30
    if thing[0] == "tell" and len(thing) == 2:
        return type(thing[1]) is int and thing[1] in range(places)
    if thing[0] != "call" or len(thing) != 3 or type(thing[1]) is not str or thing[1] not in sizes:
        return False
    if type(thing[2]) is not list or len(thing[2]) != sizes[thing[1]]:
        return False
    return all(plain_pick(web, places, pick) for pick in thing[2])


def plain_rule(web, sizes, places, rules, number):
    rule = rules[number]
    if number == 12 or type(rule) is not tuple or len(rule) != 3 or not is_name(rule[0]):
        return False
    if type(rule[1]) is not tuple or len(rule[1]) != places or type(rule[2]) is not list or len(rule[2]) > 6:
        return False
    if not all(type(name) is str and name in dict(web) for name in rule[1]):
        return False
    if any(rule[0] == other[0] or rule[1] == other[1] for other in rules[:number]):
        return False
    return all(plain_step(web, sizes, places, step) for step in rule[2])


def plain_wrong(web, deeds):
    """Where these come to no program: "None" or a tuple; else "right"."""
    if not is_web(web) or type(deeds) is not list:
        return "None"
    for number, deed in enumerate(deeds):
        if number == 4 or type(deed) is not tuple or len(deed) != 3 or not is_name(deed[0]):
            return (number, None)
        if type(deed[1]) is not int or deed[1] not in (1, 2, 3) or len(web) ** deed[1] > 216:
            return (number, None)
        if type(deed[2]) is not list or deed[0] in [other[0] for other in deeds[:number]]:
            return (number, None)
    sizes = {name: places for name, places, _ in deeds}
    for number, (_, places, rules) in enumerate(deeds):
        for rule in range(len(rules)):
            if not plain_rule(web, sizes, places, rules, rule):
                return (number, rule)
    return "right"


def with_steps(steps):
    """Deeds like those above, with these steps in the second rule of the first deed."""
    return [("do", 2, [DEEDS[0][2][0], ("s", ("b", "a"), steps)]), DEEDS[1]]


def full_rules(count, places=2):
    every = itertools.product([name for name, _ in DIAMOND], repeat=places)
    return [(name, kinds, []) for name, kinds in zip(kind_names(count, 2), every)]


class TestPrograms(unittest.TestCase, Refusals):

    def test_programs(self):
        programs = [
            ([("a", [])], []), (WEB, DEEDS), (loose_web(10), [(name, 2, []) for name in ("a", "b", "abcdefgh", "d")]),
            (loose_web(6), [("a", 3, [])]), (DIAMOND, [("a", 2, full_rules(12)), ("b", 3, full_rules(12, 3))]),
            (WEB, [("a", 1, [("a", ("a",), [])]), ("b", 1, [("a", ("a",), [])])])]
        for program in programs + some_programs(60):
            self.assertIs(is_program(program), True, program)
            self.assertEqual(program_of(program[0], program[1]), program)

    def test_right_steps(self):
        steps = [("say", 0), ("say", MOST), ("say", -MOST), ("tell", 0), ("tell", 1), ("onward",), ("call", "go", [("own", 0)]),
                 ("call", "go", [("new", "a", -MOST)]), ("call", "do", [("own", 1), ("own", 1)]),
                 ("call", "do", [("new", "a", 0), ("new", "a", 0)])]
        for step in steps:
            self.assertIs(is_program((WEB, with_steps([step]))), True, step)
        self.assertIs(is_program((WEB, with_steps([]))), True)
        self.assertIs(is_program((WEB, with_steps([("onward",)] * 6))), True)

    def test_wrong_steps(self):
        steps = [
            ("say",), ("say", MOST + 1), ("say", -MOST - 1), ("say", True), ("say", None), ("say", "1"), ("say", 1, 1),
            ["say", 1], "say", ("say", [1]), ("tell",), ("tell", 2), ("tell", -1), ("tell", True), ("tell", False),
            ("tell", "0"), ("tell", None), ("tell", 0, 0), ["tell", 0], ("onward", 1), ("onward", ()), ["onward"], "onward",
            (), [], None, 0, ("none",), ("rule", "a"), ("Say", 1), (["say"], 1), ({}, 1), (None, 1),
            ("call",), ("call", "go"), ("call", "go", []), ("call", "go", [("own", 0)], 0), ("call", "go", (("own", 0),)),
            ("call", "go", [("own", 0), ("own", 0)]), ("call", "do", [("own", 0)]), ("call", "no", [("own", 0)]),
            ("call", None, [("own", 0)]), ("call", ["go"], [("own", 0)]), ("call", {}, []), ("call", "go", None),
            ("call", "go", {0: 1}), ["call", "go", [("own", 0)]],
            ("call", "go", [("own", 2)]), ("call", "go", [("own", -1)]), ("call", "go", [("own", False)]),
            ("call", "go", [("own", "0")]), ("call", "go", [("own",)]), ("call", "go", [("own", 0, 0)]), ("call", "go", [()]),
            ("call", "go", [["own", 0]]), ("call", "go", ["own"]), ("call", "go", [None]), ("call", "go", [0]),
            ("call", "go", [("new", "a")]), ("call", "go", [("new", "a", 1, 1)]), ("call", "go", [("new", "x", 1)]),
            ("call", "go", [("new", ["a"], 1)]), ("call", "go", [("new", "a", MOST + 1)]),
            ("call", "go", [("new", "a", -MOST - 1)]), ("call", "go", [("new", "a", True)]),
            ("call", "go", [("new", "a", None)]), ("call", "go", [["new", "a", 1]]), ("call", "go", [("old", "a", 1)]),
            ("call", "go", [("new", ("a",), 1)]), ("call", "go", [("new", {}, 1)]),
        ]
        for step in steps:
            for wrong in ([step], [("onward",), step], [step, ("onward",)]):
                self.assertIs(is_program((WEB, with_steps(wrong))), False, step)
                self.assert_refused(NoProgram, (0, 1), program_of, WEB, with_steps(wrong))
        for wrong in ([("onward",)] * 7, (), (("onward",),), None, {}, "", ("onward",), 0):
            self.assert_refused(NoProgram, (0, 1), program_of, WEB, with_steps(wrong))

    def test_a_place_is_one_of_the_rules_own_deed(self):
        deeds = [("do", 3, []), ("go", 1, [("r", ("a",), [("tell", 1)])])]
        self.assert_refused(NoProgram, (1, 0), program_of, WEB, deeds)
        deeds = [("do", 3, []), ("go", 1, [("r", ("a",), [("call", "do", [("own", 0), ("own", 1), ("own", 0)])])])]
        self.assert_refused(NoProgram, (1, 0), program_of, WEB, deeds)
        deeds = [("do", 3, [("r", ("a", "a", "b"), [("tell", 2), ("call", "go", [("own", 2)])])]), ("go", 1, [])]
        self.assertIs(is_program((WEB, deeds)), True)

    def test_a_deed_called_may_stand_behind(self):
        deeds = [("do", 1, [("r", ("a",), [("call", "go", [("own", 0)])])])]
        self.assert_refused(NoProgram, (0, 0), program_of, WEB, deeds)
        self.assertIs(is_program((WEB, deeds + [("go", 1, [])])), True)
        self.assert_refused(NoProgram, (0, 0), program_of, WEB, deeds + [("go", 2, [])])

    def test_refused_at_none(self):
        for web in (None, [], (), {}, [("a", ["b"])], loose_web(11), "a", tuple(WEB)):
            for deeds in ([], DEEDS, None, [None]):
                self.assertIs(is_program((web, deeds)), False)
                self.assert_refused(NoProgram, None, program_of, web, deeds)
        for deeds in (None, (), {}, "", 0, tuple(DEEDS)):
            self.assert_refused(NoProgram, None, program_of, WEB, deeds)

    def test_refused_at_the_first_wrong_deed(self):
        five = [(name, 1, []) for name in "abcde"]
        cases = [
            ([None], 0), ([()], 0), ([("do", 1)], 0), ([("do", 1, [], [])], 0), ([["do", 1, []]], 0), ([("Do", 1, [])], 0),
            ([("", 1, [])], 0), ([("abcdefghi", 1, [])], 0), ([(None, 1, [])], 0), ([([], 1, [])], 0), ([({}, 1, [])], 0),
            ([("do", 0, [])], 0), ([("do", 4, [])], 0), ([("do", True, [])], 0), ([("do", "1", [])], 0),
            ([("do", None, [])], 0), ([("do", -1, [])], 0), ([("do", 1, None)], 0), ([("do", 1, ())], 0),
            ([("do", 1, {})], 0), ([("do", 1, "")], 0), (DEEDS + [("do", 1, [])], 2), (DEEDS + [("go", 1, []), None], 2),
            (five, 4), (five[:4] + [None], 4), (five + five, 4), (five[:3] + [None] + five[3:], 3),
            (five[:2] + five, 2),
            # A wrong rule comes behind each wrong deed.
            ([("do", 1, [None]), ("do", 1, [])], 1), ([("do", 1, [None])] + five, 4), ([("do", 1, [None]), None], 1),
        ]
        for deeds, at in cases:
            self.assertIs(is_program((WEB, deeds)), False, deeds)
            self.assert_refused(NoProgram, (at, None), program_of, WEB, deeds)
        for web, places in ((loose_web(7), 3), (loose_web(10), 3)):
            self.assert_refused(NoProgram, (1, None), program_of, web, [("a", 2, []), ("b", places, [])])
            self.assert_refused(NoProgram, (1, None), program_of, web, [("a", 2, [None]), ("b", places, [])])

    def test_refused_at_the_first_wrong_rule(self):
        right = ("r", ("a", "b"), [])
        cases = [
            ([None], 0), ([()], 0), ([("r", ("a", "b"))], 0), ([("r", ("a", "b"), [], [])], 0), ([["r", ("a", "b"), []]], 0),
            ([("R", ("a", "b"), [])], 0), ([(None, ("a", "b"), [])], 0), ([("r", ["a", "b"], [])], 0), ([("r", "ab", [])], 0),
            ([("r", ("a",), [])], 0), ([("r", ("a", "b", "a"), [])], 0), ([("r", ("a", "x"), [])], 0),
            ([("r", ("a", []), [])], 0), ([("r", ("a", {}), [])], 0), ([right, right], 1),
            ([right, ("r", ("a", "a"), [])], 1), ([right, ("s", ("a", "b"), [])], 1),
            ([right, ("s", ("a", "a"), []), 5, 6], 2),
            (full_rules(13), 12), (full_rules(12) + [None], 12), (full_rules(3) + [None] + full_rules(13), 3),
        ]
        for rules, at in cases:
            self.assert_refused(NoProgram, (0, at), program_of, DIAMOND, [("do", 2, rules)])
            self.assert_refused(NoProgram, (1, at), program_of, DIAMOND, [("go", 2, full_rules(12)), ("do", 2, rules)])
            self.assert_refused(NoProgram, (1, at), program_of, DIAMOND, [
                ("go", 1, []), ("do", 2, rules), ("a", 1, [None])])

    def test_anything(self):
        for thing in ANYTHING:
            self.assertIs(is_program(thing), False)
            for other in ANYTHING:
                self.assertIs(is_program((thing, other)), plain_wrong(thing, other) == "right")
        for thing in (DEEDS, [WEB, DEEDS], (WEB,), (WEB, DEEDS, []), (DEEDS, WEB)):
            self.assertIs(is_program(thing), False)

    def test_spoiled_programs(self):
        deeds = [("do", 2, [("r", ("a", "b"), [("call", "go", [("new", "a", 5)]), ("tell", 1)])]), ("go", 1, [])]
        for thing in spoiled(([("a", []), ("b", ["a"])], deeds)):
            if type(thing) is not tuple or len(thing) != 2:
                self.assertIs(is_program(thing), False, thing)
                continue
            at = plain_wrong(*thing)
            self.assertIs(is_program(thing), at == "right", thing)
            if at == "right":
                self.assertEqual(program_of(*thing), thing)
            else:
                self.assert_refused(NoProgram, None if at == "None" else at, program_of, *thing)

    def test_lists_are_its_own(self):
        handed = copy.deepcopy((WEB, DEEDS))
        kept = copy.deepcopy(handed)
        self.assert_untouched(program_of, *handed)
        program = program_of(web=handed[0], deeds=handed[1])
        handed[1][0][2][0][2][2][2].pop()
        handed[1][0][2][0][2].pop()
        handed[1][0][2].pop()
        handed[1].pop()
        handed[0][1][1].pop()
        handed[0].pop()
        self.assertEqual(program, kept)


class TestBookIn(unittest.TestCase, Refusals):

    def test_book_in(self):
        program = (WEB, DEEDS)
        self.assertEqual(book_in(program, "do"), (WEB, 2, [("r", ("a", "a")), ("s", ("b", "a"))]))
        self.assertEqual(book_in(program, "go"), (WEB, 1, []))
        self.assertEqual(book_in(program=program, deed="go"), (WEB, 1, []))

    def test_no_deed(self):
        for deed in ("no", "r", "a", "d", "doo"):
            self.assert_refused(NoDeed, deed, book_in, (WEB, DEEDS), deed)
        self.assert_refused(NoDeed, "do", book_in, (WEB, []), "do")

    def test_the_askers_own(self):
        program = copy.deepcopy((WEB, DEEDS))
        self.assert_untouched(book_in, program, "do")
        book = book_in(program, "do")
        program[0][1][1].pop()
        program[1][0][2].pop()
        self.assertEqual(book, (WEB, 2, [("r", ("a", "a")), ("s", ("b", "a"))]))
        self.assertEqual(book_in(program, "do"), ([("a", []), ("b", [])], 2, [("r", ("a", "a"))]))

    def test_somewhat_beyond_the_limits(self):
        program = (loose_web(12), [(name, 3, full_rules(14, 3)) for name in "abcde"])
        self.assertEqual(book_in(program, "e")[0], loose_web(12))
        self.assertEqual(len(book_in(program, "e")[2]), 14)


if __name__ == "__main__":
    unittest.main()
