"""[35] to [38], and what [4] says of a hall: its changes, what they alter, and what is kept."""

import copy
import itertools
import unittest

from bestcalls.answers import answer_of
from bestcalls.errors import (
    Full, Needed, NoCall, NoDeed, NoFit, NoKind, NoName, NoRule, NoStep, Quarrel, Taken, TooDeep, TooLong, Twice)
from bestcalls.guides import guide_of, guided
from bestcalls.hall import Hall
from bestcalls.machine import machine
from bestcalls.pressed import all_answers, all_calls, chosen, pressed
from bestcalls.programs import book_in, is_program
from bestcalls.reader import read
from bestcalls.same import cell_at
from bestcalls.tables import tables_of
from bestcalls.texts import shown
from bestcalls.walker import run
from bestcalls.walks import best_order, walk_of, walked
from halls import Changes, PlainHall, plain_outcome
from helper import ANYTHING, MOST, Refusals, kind_names, ruin
from samples import ladder, long_program, outcome, rung_things

NONE = ("none",)
NO_NAMES = [thing for thing in ANYTHING if thing not in ("a", "b", "zz")]


def rule(name):
    return ("rule", name)


def hall_of(program):
    """A hall with this program."""
    web, deeds = copy.deepcopy(program)
    hall = Hall(web[0][0])
    for name, elders in web[1:]:
        hall.kind(name, elders)
    for name, places, _ in deeds:
        hall.deed(name, places)
    for name, _, rules in deeds:
        for one, kinds, steps in rules:
            hall.rule(name, one, kinds, steps)
    return hall


def diamond_hall():
    """Kinds a to d, the deed do of one place with rules for a and b, and the deed go of two without rules."""
    return hall_of(([("a", []), ("b", ["a"]), ("c", ["a"]), ("d", ["b", "c"])], [
        ("do", 1, [("ra", ("a",), [("say", 1)]), ("rb", ("b",), [("say", 10), ("onward",)])]), ("go", 2, [])]))


def state_of(hall):
    """All that can be asked of a hall without changing it."""
    program = hall.program()
    answers = [(name, call, answer_of(book_in(program, name), call))
               for name, _, _ in program[1] for call in all_calls(book_in(program, name))]
    return (program, answers, hall.kept(), hall.reckoned())


class HallCase(unittest.TestCase, Refusals):

    def assert_no_change(self, kind, at, hall, word, *things):
        """The hall refuses, just so, and all is as it was."""
        ahead = state_of(hall)
        self.assert_refused(kind, at, getattr(hall, word), *things)
        self.assertEqual(state_of(hall), ahead)


class TestKinds(HallCase):

    def test_begin(self):
        for name in ("a", "kinds", "abcdefgh"):
            hall = Hall(name)
            self.assertEqual(hall.program(), ([(name, [])], []))
            self.assertEqual((hall.kept(), hall.reckoned()), ([], 0))
        self.assertEqual(Hall(kind="z").program(), ([("z", [])], []))

    def test_begin_without_a_name(self):
        for thing in NO_NAMES:
            self.assert_refused(NoName, thing, Hall, thing)

    def test_put_in(self):
        hall = Hall("b")
        self.assertEqual(hall.kind("a", []), [])
        self.assertEqual(hall.kind("c", ["b", "a"]), [])
        self.assertEqual(hall.kind(name="abcdefgh", elders=["c", "b"]), [])
        self.assertEqual(hall.program(), ([("b", []), ("a", []), ("c", ["b", "a"]), ("abcdefgh", ["c", "b"])], []))

    def test_told_anew(self):
        hall = diamond_hall()
        self.assertEqual(hall.kind("c", ["b"]), [("do", ("c",), rule("ra"), rule("rb"))])
        self.assertEqual(hall.program()[0], [("a", []), ("b", ["a"]), ("c", ["b"]), ("d", ["b", "c"])])
        self.assertEqual(hall.kind("d", ["a"]), [("do", ("d",), rule("rb"), rule("ra"))])
        self.assertEqual(hall.kind("d", []), [("do", ("d",), rule("ra"), NONE)])
        self.assertEqual(hall.kind("b", []), [])
        self.assertEqual(hall.kind("a", []), [])
        self.assertEqual(hall.program()[0], [("a", []), ("b", []), ("c", ["b"]), ("d", [])])

    def test_many_altered_in_all_deeds(self):
        hall = hall_of(([("a", []), ("b", ["a"]), ("c", ["b"])], [
            ("z", 2, [("ra", ("a", "b"), []), ("rb", ("b", "a"), [])]), ("y", 1, [("ra", ("a",), [])]),
            ("x", 1, [("rc", ("c",), [])])]))
        both = ("quarrel", ("ra", "rb"))
        # Now b stands on a no longer, nor does c, but c still stands on b.
        self.assertEqual(hall.kind("b", []), [
            ("z", ("b", "b"), both, NONE), ("z", ("b", "c"), both, NONE), ("z", ("c", "b"), both, NONE),
            ("z", ("c", "c"), both, NONE), ("y", ("b",), rule("ra"), NONE), ("y", ("c",), rule("ra"), NONE)])

    def test_no_name(self):
        hall = diamond_hall()
        for thing in NO_NAMES:
            self.assert_no_change(NoName, thing, hall, "kind", thing, [])
        self.assert_no_change(NoName, "A", hall, "kind", "A", ["x"] * 5)

    def test_ten_kinds(self):
        hall = Hall("a")
        for name in kind_names(10)[1:]:
            self.assertEqual(hall.kind(name, ["a"]), [])
        self.assert_no_change(Full, None, hall, "kind", "k", [])
        self.assert_no_change(Full, None, hall, "kind", "k", ["x", "x"])
        # One told anew is none of the ten others.
        self.assertEqual(hall.kind("j", ["b", "c"]), [])
        self.assertEqual(hall.kind("a", []), [])
        self.assertEqual(hall.program()[0][9], ("j", ["b", "c"]))
        hall.unkind("j")
        self.assertEqual(hall.kind("k", ["i"]), [])
        self.assertEqual(len(hall.program()[0]), 10)

    def test_four_elders(self):
        hall = Hall("a")
        for name in "bcdefg":
            hall.kind(name, [])
        self.assertEqual(hall.kind("h", ["b", "a", "d", "c"]), [])
        for elders in (list("abcde"), list("aaaaa"), list("xxxxx"), list("abcdefg")):
            self.assert_no_change(Full, None, hall, "kind", "i", elders)
            self.assert_no_change(Full, None, hall, "kind", "h", elders)
        self.assertEqual(hall.kind("g", list("fedc")), [])

    def test_too_many_calls_of_names(self):
        hall = Hall("a")
        for name in "bcdef":
            hall.kind(name, [])
        hall.deed("do", 1)
        hall.deed("go", 3)
        self.assert_no_change(Full, None, hall, "kind", "g", [])
        self.assert_no_change(Full, None, hall, "kind", "g", ["x"])
        self.assertEqual(hall.kind("f", ["a"]), [])
        hall = Hall("a")
        for name in "bcdefghi":
            hall.kind(name, [])
        hall.deed("do", 2)
        # A hundred calls of names are few enough.
        self.assertEqual(hall.kind("j", []), [])

    def test_elders_that_do_not_stand(self):
        hall = diamond_hall()
        self.assert_no_change(NoKind, "x", hall, "kind", "e", ["x"])
        self.assert_no_change(NoKind, "y", hall, "kind", "e", ["a", "y", "x", "a"])
        self.assert_no_change(NoKind, "e", hall, "kind", "e", ["a", "e"])
        # Told anew: by itself, or by one that stands behind it.
        self.assert_no_change(NoKind, "b", hall, "kind", "b", ["b"])
        self.assert_no_change(NoKind, "c", hall, "kind", "b", ["a", "c", "x"])
        self.assert_no_change(NoKind, "d", hall, "kind", "b", ["a", "a", "d"])
        self.assert_no_change(NoKind, "a", hall, "kind", "a", ["a"])
        self.assert_no_change(NoKind, "d", hall, "kind", "d", ["d", "x"])

    def test_elders_twice(self):
        hall = diamond_hall()
        self.assert_no_change(Twice, "a", hall, "kind", "e", ["a", "a"])
        self.assert_no_change(Twice, "b", hall, "kind", "e", ["a", "b", "b", "a"])
        self.assert_no_change(Twice, "a", hall, "kind", "e", ["a", "b", "a", "b"])
        self.assert_no_change(Twice, "b", hall, "kind", "d", ["c", "b", "b"])

    def test_taken_out(self):
        hall = diamond_hall()
        self.assertEqual(hall.unkind("d"), [])
        self.assertEqual(hall.unkind(name="c"), [])
        self.assertEqual(hall.program()[0], [("a", []), ("b", ["a"])])
        self.assert_no_change(NoKind, "d", hall, "unkind", "d")

    def test_needed(self):
        hall = diamond_hall()
        self.assert_no_change(NoKind, "x", hall, "unkind", "x")
        for thing in (None, [], {}, 0, ("a",)):
            self.assert_no_change(NoKind, thing, hall, "unkind", thing)
        # Elders first, the first kind of all that has it.
        self.assert_no_change(Needed, "b", hall, "unkind", "a")
        self.assert_no_change(Needed, "d", hall, "unkind", "b")
        self.assert_no_change(Needed, "d", hall, "unkind", "c")
        hall.unkind("d")
        self.assert_no_change(Needed, ("do", "rb"), hall, "unkind", "b")
        hall.rule("go", "ra", ("a", "c"), [])
        hall.rule("go", "rc", ("c", "a"), [])
        self.assert_no_change(Needed, ("go", "ra"), hall, "unkind", "c")
        hall.rule("do", "rb", ("b",), [("say", 1), ("call", "do", [("new", "c", 0)])])
        self.assert_no_change(Needed, ("do", "rb"), hall, "unkind", "c")
        hall.rule("do", "ra", ("a",), [("call", "go", [("own", 0), ("new", "c", 0)])])
        self.assert_no_change(Needed, ("do", "ra"), hall, "unkind", "c")
        for deed, name in (("do", "ra"), ("do", "rb"), ("go", "ra")):
            hall.drop(deed, name)
        self.assert_no_change(Needed, ("go", "rc"), hall, "unkind", "c")
        hall.drop("go", "rc")
        self.assertEqual(hall.unkind("c"), [])
        self.assertEqual(hall.unkind("b"), [])
        self.assert_no_change(Needed, None, hall, "unkind", "a")
        hall.rule("do", "ra", ("a",), [])
        self.assert_no_change(Needed, ("do", "ra"), hall, "unkind", "a")

    def test_own_things_need_no_kind(self):
        hall = diamond_hall()
        hall.rule("do", "rb", ("b",), [("call", "go", [("own", 0), ("own", 0)]), ("tell", 0), ("say", 3)])
        self.assertEqual(hall.unkind("d"), [])
        self.assertEqual(hall.unkind("c"), [])


class TestDeeds(HallCase):

    def test_put_in(self):
        hall = Hall("a")
        self.assertEqual(hall.deed("do", 1), [])
        self.assertEqual(hall.deed("a", 3), [])
        self.assertEqual(hall.deed(name="abcdefgh", places=2), [])
        self.assertEqual(hall.program(), ([("a", [])], [("do", 1, []), ("a", 3, []), ("abcdefgh", 2, [])]))

    def test_refused(self):
        hall = diamond_hall()
        for thing in NO_NAMES:
            self.assert_no_change(NoName, thing, hall, "deed", thing, 1)
        for places in (1, 2, 3):
            self.assert_no_change(Taken, "do", hall, "deed", "do", places)
            self.assert_no_change(Taken, "go", hall, "deed", "go", places)

    def test_four_deeds(self):
        hall = diamond_hall()
        hall.deed("ho", 3)
        hall.deed("lo", 1)
        self.assert_no_change(Full, None, hall, "deed", "no", 1)
        self.assert_no_change(Taken, "lo", hall, "deed", "lo", 1)
        self.assert_no_change(NoName, "NO", hall, "deed", "NO", 1)

    def test_too_many_calls_of_names(self):
        hall = Hall("a")
        for name in "bcdef":
            hall.kind(name, [])
        self.assertEqual(hall.deed("do", 3), [])
        hall = Hall("a")
        for name in "bcdefg":
            hall.kind(name, [])
        self.assert_no_change(Full, None, hall, "deed", "do", 3)
        for name in "hij":
            hall.kind(name, [])
        self.assert_no_change(Full, None, hall, "deed", "do", 3)
        self.assertEqual(hall.deed("do", 2), [])
        self.assert_no_change(Taken, "do", hall, "deed", "do", 3)


class TestRules(HallCase):

    def test_put_in_and_told_anew(self):
        hall = Hall("a")
        hall.kind("b", ["a"])
        hall.deed("do", 2)
        self.assertEqual(hall.rule("do", "r", ("b", "a"), [("say", 5)]), [
            ("do", ("b", "a"), NONE, rule("r")), ("do", ("b", "b"), NONE, rule("r"))])
        self.assertEqual(hall.rule(deed="do", name="s", kinds=("a", "b"), steps=[]), [
            ("do", ("a", "b"), NONE, rule("s")), ("do", ("b", "b"), rule("r"), ("quarrel", ("r", "s")))])
        # Told anew it keeps its place, so it comes first in a quarrel; with other steps alone nothing is altered.
        self.assertEqual(hall.rule("do", "r", ("b", "a"), [("tell", 1), ("onward",)]), [])
        self.assertEqual(hall.program()[1], [("do", 2, [("r", ("b", "a"), [("tell", 1), ("onward",)]), ("s", ("a", "b"), [])])])
        self.assertEqual(hall.rule("do", "r", ("b", "b"), []), [
            ("do", ("b", "a"), rule("r"), NONE), ("do", ("b", "b"), ("quarrel", ("r", "s")), rule("r"))])
        self.assertEqual(hall.drop("do", "r"), [("do", ("b", "b"), rule("r"), rule("s"))])
        # Put in again it stands behind.
        self.assertEqual(hall.rule("do", "r", ("b", "a"), []), [
            ("do", ("b", "a"), NONE, rule("r")), ("do", ("b", "b"), rule("s"), ("quarrel", ("s", "r")))])
        self.assertEqual(hall.drop(deed="do", name="s"), [
            ("do", ("a", "b"), rule("s"), NONE), ("do", ("b", "b"), ("quarrel", ("s", "r")), rule("r"))])

    def test_one_deed_alone(self):
        hall = diamond_hall()
        hall.rule("go", "ra", ("a", "a"), [])
        self.assertEqual({deed for deed, _, _, _ in hall.rule("do", "ra", ("c",), [])}, {"do"})
        self.assertEqual(hall.program()[1][1], ("go", 2, [("ra", ("a", "a"), [])]))
        self.assertEqual({deed for deed, _, _, _ in hall.drop("go", "ra")}, {"go"})
        self.assertEqual([name for name, _, _ in hall.program()[1][0][2]], ["ra", "rb"])

    def test_refusals(self):
        hall = diamond_hall()
        for thing in ("x", "a", None, [], {}, 0, ("do",)):
            self.assert_no_change(NoDeed, thing, hall, "rule", thing, "R", ("x",), [None])
            self.assert_no_change(NoDeed, thing, hall, "drop", thing, "x")
        for thing in NO_NAMES:
            self.assert_no_change(NoName, thing, hall, "rule", "do", thing, ("x", "x"), [None])
        for kinds in ((), ("a", "b"), ("x", "y"), ("a", "a", "a")):
            self.assert_no_change(NoCall, None, hall, "rule", "do", "r", kinds, [None])
        for kinds in ((), ("a",), ("x",), ("a", "a", "a")):
            self.assert_no_change(NoCall, None, hall, "rule", "go", "r", kinds, [None])
        self.assert_no_change(NoKind, "x", hall, "rule", "do", "r", ("x",), [None])
        self.assert_no_change(NoKind, "y", hall, "rule", "go", "r", ("y", "x"), [None])
        self.assert_no_change(NoKind, "x", hall, "rule", "go", "r", ("a", "x"), [None])
        self.assert_no_change(Twice, "ra", hall, "rule", "do", "r", ("a",), [None])
        self.assert_no_change(Twice, "rb", hall, "rule", "do", "ra", ("b",), [None])
        self.assert_no_change(NoStep, 0, hall, "rule", "do", "ra", ("a",), [None])
        self.assert_no_change(NoRule, "rc", hall, "drop", "do", "rc")
        self.assert_no_change(NoRule, "ra", hall, "drop", "go", "ra")
        self.assert_no_change(NoRule, [], hall, "drop", "go", [])

    def test_twelve_rules(self):
        hall = Hall("a")
        for name in "bcd":
            hall.kind(name, [])
        hall.deed("do", 2)
        every = list(itertools.product("abcd", repeat=2))
        names = kind_names(12, 2)
        for name, kinds in zip(names, every):
            hall.rule("do", name, kinds, [])
        self.assert_no_change(Full, None, hall, "rule", "do", "r", every[12], [])
        self.assert_no_change(Full, None, hall, "rule", "do", "r", ("x",), [None])
        self.assert_no_change(NoName, "R", hall, "rule", "do", "R", every[12], [])
        # One told anew is none of the twelve others.
        self.assertEqual(hall.rule("do", names[11], every[12], []), [
            ("do", every[11], rule(names[11]), NONE), ("do", every[12], NONE, rule(names[11]))])
        self.assert_no_change(Twice, names[0], hall, "rule", "do", names[11], every[0], [])
        hall.drop("do", names[3])
        self.assertEqual(len(hall.rule("do", "r", every[15], [])), 1)
        self.assertEqual(len(hall.program()[1][0][2]), 12)

    def test_steps(self):
        hall = diamond_hall()
        right = [("say", -MOST), ("tell", 1), ("call", "go", [("own", 1), ("new", "d", MOST)]), ("onward",),
                 ("call", "do", [("own", 0)]), ("say", 0)]
        self.assertEqual(len(hall.rule("go", "r", ("a", "a"), right)), 16)
        self.assertEqual(hall.program()[1][1], ("go", 2, [("r", ("a", "a"), right)]))
        self.assert_no_change(NoStep, 6, hall, "rule", "go", "s", ("b", "b"), right + [("say", 0)])
        self.assert_no_change(NoStep, 6, hall, "rule", "go", "s", ("b", "b"), right + [None, None])
        self.assert_no_change(NoStep, 2, hall, "rule", "go", "s", ("b", "b"), right[:2] + [None] + right[2:])
        # A place of go, which do hasn't.
        self.assert_no_change(NoStep, 1, hall, "rule", "do", "s", ("c",), right)
        self.assertEqual(len(hall.rule("do", "s", ("c",), right[3:])), 2)

    def test_steps_that_are_none(self):
        hall = diamond_hall()
        wrong = list(ANYTHING) + [
            ("say", MOST + 1), ("say", True), ("say",), ("say", 1, 1), ("tell", 2), ("tell", -1), ("tell", False), ("tell",),
            ("onward", 1), ["onward"], ("onwards",), ("call", "x", [("own", 0)]), ("call", "do", []), ("call", "do"),
            ("call", "do", [("own", 0), ("own", 0)]), ("call", "do", (("own", 0),)), ("call", [], [("own", 0)]),
            ("call", "do", [("own", 2)]), ("call", "do", [("own", True)]), ("call", "do", [("new", "x", 0)]),
            ("call", "do", [("new", [], 0)]), ("call", "do", [("new", "a", MOST + 1)]), ("call", "do", [("new", "a", True)]),
            ("call", "do", [("new", "a")]), ("call", "do", [None]), ("call", "go", [("own", 0)])]
        for number in (0, 1, 5):
            for step in wrong:
                self.assert_no_change(NoStep, number, hall, "rule", "go", "r", ("a", "a"), [("say", 1)] * number + [step])

    def test_a_deed_that_is_put_in_later(self):
        hall = diamond_hall()
        steps = [("call", "ho", [("own", 0)])]
        self.assert_no_change(NoStep, 0, hall, "rule", "do", "ra", ("a",), steps)
        hall.deed("ho", 1)
        self.assertEqual(hall.rule("do", "ra", ("a",), steps), [])


class TestKept(HallCase):

    def test_ask(self):
        hall = diamond_hall()
        self.assertEqual(hall.ask("do", ("d",)), rule("rb"))
        self.assertEqual(hall.ask(deed="go", call=("a", "d")), NONE)
        self.assertEqual(hall.ask("do", ("a",)), rule("ra"))
        self.assertEqual(hall.reckoned(), 3)
        self.assertEqual(hall.ask("do", ("d",)), rule("rb"))
        self.assertEqual(hall.reckoned(), 3)
        self.assertEqual(hall.kept(), [("do", ("d",), rule("rb")), ("go", ("a", "d"), NONE), ("do", ("a",), rule("ra"))])
        hall.rule("do", "rc", ("c",), [])
        self.assertEqual(hall.ask("do", ("d",)), ("quarrel", ("rb", "rc")))
        self.assertEqual(hall.reckoned(), 3)

    def test_refused(self):
        hall = diamond_hall()
        hall.ask("do", ("d",))
        for thing in ("x", None, [], ("do",)):
            self.assert_no_change(NoDeed, thing, hall, "ask", thing, ("x", "x"))
        for call in ((), ("a", "a"), ("x", "y")):
            self.assert_no_change(NoCall, None, hall, "ask", "do", call)
        for call in ((), ("a",), ("x",), ("a", "a", "a")):
            self.assert_no_change(NoCall, None, hall, "ask", "go", call)
        self.assert_no_change(NoKind, "x", hall, "ask", "do", ("x",))
        self.assert_no_change(NoKind, "y", hall, "ask", "go", ("a", "y"))
        self.assert_no_change(NoKind, "y", hall, "ask", "go", ("y", "x"))

    def test_kept_behind_changes(self):
        hall = diamond_hall()
        for deed, call in (("go", ("d", "a")), ("do", ("c",)), ("do", ("d",)), ("go", ("a", "a")), ("do", ("b",))):
            hall.ask(deed, call)
        hall.kind("d", ["c"])
        self.assertEqual(hall.kept(), [
            ("go", ("d", "a"), NONE), ("do", ("c",), rule("ra")), ("do", ("d",), rule("ra")), ("go", ("a", "a"), NONE),
            ("do", ("b",), rule("rb"))])
        hall.kind("e", ["d"])
        hall.deed("ho", 1)
        self.assertEqual(len(hall.kept()), 5)
        hall.rule("go", "r", ("c", "a"), [])
        self.assertEqual(hall.kept()[0], ("go", ("d", "a"), rule("r")))
        self.assertEqual(hall.kept()[3], ("go", ("a", "a"), NONE))
        hall.unkind("e")
        self.assertEqual(len(hall.kept()), 5)
        hall.unkind("d")
        self.assertEqual(hall.kept(), [("do", ("c",), rule("ra")), ("go", ("a", "a"), NONE), ("do", ("b",), rule("rb"))])
        self.assertEqual(hall.reckoned(), 5)
        # Put in again it is not kept until it is asked again, and then it stands behind.
        hall.kind("d", ["b"])
        self.assertEqual(len(hall.kept()), 3)
        self.assertEqual(hall.ask("do", ("d",)), rule("rb"))
        self.assertEqual(hall.kept()[3:], [("do", ("d",), rule("rb"))])
        self.assertEqual(hall.reckoned(), 6)

    def test_a_kind_at_another_place(self):
        hall = diamond_hall()
        for call in itertools.product("abcd", repeat=2):
            hall.ask("go", call)
        hall.unkind("d")
        self.assertEqual([call for _, call, _ in hall.kept()], list(itertools.product("abc", repeat=2)))

    def test_run(self):
        hall = diamond_hall()
        self.assertEqual(hall.run("do", [("d", 5)]), (11, [("do", "rb"), ("do", "ra")]))
        # Onward is not asked, so just the first call is kept.
        self.assertEqual(hall.kept(), [("do", ("d",), rule("rb"))])
        hall.rule("go", "r", ("a", "a"), [
            ("call", "do", [("own", 1)]), ("call", "do", [("new", "c", 7)]), ("call", "do", [("own", 1)]), ("tell", 0)])
        self.assertEqual(hall.run(deed="go", things=[("a", 100), ("b", 5)]), (
            123, [("go", "r"), ("do", "rb"), ("do", "ra"), ("do", "ra"), ("do", "rb"), ("do", "ra")]))
        self.assertEqual(hall.kept(), [
            ("do", ("d",), rule("rb")), ("go", ("a", "b"), rule("r")), ("do", ("b",), rule("rb")), ("do", ("c",), rule("ra"))])
        self.assertEqual(hall.reckoned(), 4)
        hall.run("go", [("a", 0), ("d", 0)])
        self.assertEqual(hall.reckoned(), 5)
        self.assertEqual(hall.kept()[4:], [("go", ("a", "d"), rule("r"))])

    def test_a_call_is_kept_ahead_of_those_that_it_calls(self):
        hall = Hall("a")
        for name in ("one", "two", "six"):
            hall.deed(name, 1)
        hall.rule("one", "r", ("a",), [("call", "two", [("own", 0)]), ("call", "six", [("own", 0)])])
        hall.rule("two", "r", ("a",), [("call", "six", [("own", 0)])])
        hall.rule("six", "r", ("a",), [("tell", 0)])
        self.assertEqual(hall.run("one", [("a", 4)])[0], 8)
        self.assertEqual([deed for deed, _, _ in hall.kept()], ["one", "two", "six"])
        self.assertEqual(hall.reckoned(), 3)

    def test_run_refused_at_once(self):
        hall = diamond_hall()
        hall.ask("do", ("c",))
        for thing in ("x", None, []):
            self.assert_no_change(NoDeed, thing, hall, "run", thing, [("x", 1)] * 3)
        self.assert_no_change(NoCall, None, hall, "run", "do", [])
        self.assert_no_change(NoCall, None, hall, "run", "do", [("x", 1), ("x", 1)])
        self.assert_no_change(NoKind, "y", hall, "run", "go", [("y", 1), ("x", 1)])
        self.assert_no_change(NoKind, "x", hall, "run", "go", [("a", 1), ("x", 1)])
        self.assert_no_change(NoFit, ("go", ("a", "b")), hall, "run", "go", [("a", 1), ("b", 1)])
        hall.rule("do", "rc", ("c",), [])
        self.assert_no_change(Quarrel, ("do", ("d",), ("rb", "rc")), hall, "run", "do", [("d", 1)])

    def test_run_refused_at_a_later_call(self):
        hall = diamond_hall()
        hall.ask("do", ("c",))
        hall.rule("do", "ra", ("a",), [("say", 1), ("call", "go", [("own", 0), ("own", 0)])])
        for kind in "ac":
            self.assert_no_change(NoFit, ("go", (kind, kind)), hall, "run", "do", [(kind, 1)])
        self.assert_no_change(NoFit, ("go", ("d", "d")), hall, "run", "do", [("d", 1)])
        hall.rule("go", "ra", ("a", "b"), [])
        hall.rule("go", "rb", ("b", "a"), [])
        self.assert_no_change(Quarrel, ("go", ("b", "b"), ("ra", "rb")), hall, "run", "do", [("b", 1)])
        # A quarrel onward: from rd to rb and rc.
        hall.rule("do", "rc", ("c",), [])
        hall.rule("do", "rd", ("d",), [("onward",)])
        self.assert_no_change(Quarrel, ("do", ("d",), ("rb", "rc")), hall, "run", "do", [("d", 1)])
        self.assertEqual(hall.kept(), [("do", ("c",), rule("rc"))])
        self.assertEqual(hall.reckoned(), 1)

    def test_too_deep_and_too_long(self):
        hall = hall_of(ladder([("say", 7)]))
        told = hall.run("da", rung_things(0))
        self.assertEqual(told, run(hall.program(), "da", rung_things(0)))
        self.assertEqual((len(told[1]), len(hall.kept()), hall.reckoned()), (40, 40, 40))
        hall = hall_of(ladder([("call", "dd", [("own", 0), ("own", 1)])]))
        self.assert_no_change(TooDeep, None, hall, "run", "da", rung_things(0))
        hall = hall_of(long_program())
        self.assertEqual(hall.run("one", [("a", 0)]), run(long_program(), "one", [("a", 0)]))
        self.assertEqual([deed for deed, _, _ in hall.kept()], ["one", "two", "three", "four"])
        hall = hall_of(long_program(behind=[("say", 1)]))
        self.assert_no_change(TooLong, None, hall, "run", "one", [("a", 0)])


class TestOwn(HallCase):

    def test_what_was_handed_in_stays_and_changes_nothing_later(self):
        hall = Hall("a")
        elders, picks, things = ["a"], [("own", 0), ("new", "b", 3)], [("b", 5)]
        hall.kind("b", elders)
        hall.deed("do", 1)
        hall.deed("go", 2)
        steps = [("call", "go", picks), ("tell", 0)]
        hall.rule("do", "r", ("a",), steps)
        hall.rule("go", "r", ("a", "a"), [("tell", 1)])
        self.assertEqual((elders, steps), (["a"], [("call", "go", [("own", 0), ("new", "b", 3)]), ("tell", 0)]))
        told = hall.run("do", things)
        self.assertEqual((told, things), ((8, [("do", "r"), ("go", "r")]), [("b", 5)]))
        ahead = state_of(hall)
        elders.clear()
        picks.clear()
        steps.append(("say", 1000))
        things.clear()
        ruin(told)
        self.assertEqual(state_of(hall), ahead)
        self.assertEqual(hall.run("do", [("b", 5)])[0], 8)

    def test_what_is_told_is_the_askers_own(self):
        hall = diamond_hall()
        hall.rule("do", "ra", ("a",), [("call", "do", [("new", "d", 1)]), ("say", 1)])
        hall.ask("do", ("d",))
        hall.ask("go", ("a", "a"))
        ahead = state_of(hall)
        for told in (hall.program(), hall.kept(), hall.rule("go", "r", ("a", "a"), []), hall.kind("d", ["a"]),
                     hall.kind("d", ["b", "c"]), hall.drop("go", "r")):
            ruin(told)
        self.assertEqual(state_of(hall), ahead)
        program = hall.program()
        program[1][0][2][0][2][0][2].append("spoiled")
        program[0][3][1].append("spoiled")
        self.assertEqual(state_of(hall), ahead)

    def test_two_halls(self):
        one, other = Hall("a"), Hall("a")
        one.kind("b", ["a"])
        one.deed("do", 1)
        one.ask("do", ("a",))
        self.assertEqual((other.program(), other.kept(), other.reckoned()), (([("a", [])], []), [], 0))


class TestWhole(HallCase):

    def compare(self, seed, count):
        """A hall beside a plain reading of the points, behind each of many changes; told is what came about."""
        changes, hall, plain = Changes(seed), Hall("a"), PlainHall("a")
        met = []
        for _ in range(count):
            word, things = changes.change(plain.program())
            handed = copy.deepcopy(things)
            told = outcome(getattr(hall, word), *things)
            self.assertEqual(things, handed)
            self.assertEqual(told, plain_outcome(getattr(plain, word), *things), (plain.program(), word, things))
            self.assertEqual(hall.program(), plain.program())
            self.assertEqual(hall.kept(), plain.kept())
            self.assertEqual(hall.reckoned(), plain.reckoned())
            refused = isinstance(told, tuple) and isinstance(told[0], str) and told[0][0].isupper()
            met.append((word, told[0] if refused else bool(told)))
        self.assertTrue(is_program(hall.program()))
        return met, hall, plain

    def test_against_a_plain_reading(self):
        counts = {}
        for seed in range(60):
            for one in self.compare(seed, 120)[0]:
                counts[one] = counts.get(one, 0) + 1
        wanted = [
            ("kind", True), ("kind", False), ("kind", "NoKind"), ("kind", "Twice"), ("kind", "Full"),
            ("deed", False), ("deed", "Taken"), ("deed", "Full"), ("rule", True), ("rule", False), ("rule", "NoDeed"),
            ("rule", "NoCall"), ("rule", "NoKind"), ("rule", "Twice"), ("rule", "NoStep"), ("drop", True),
            ("drop", "NoDeed"), ("drop", "NoRule"), ("unkind", False), ("unkind", "NoKind"), ("unkind", "Needed"),
            ("ask", True), ("ask", "NoDeed"), ("ask", "NoCall"), ("ask", "NoKind"), ("run", True), ("run", "NoDeed"),
            ("run", "NoCall"), ("run", "NoKind"), ("run", "NoFit"), ("run", "Quarrel"), ("run", "TooDeep")]
        for one in wanted:
            self.assertGreater(counts.get(one, 0), 2, one)
        for one in (("unkind", True), ("deed", True), ("drop", False)):
            self.assertNotIn(one, counts)

    def test_all_ways_choose_the_same(self):
        # [4]: rules, tables, pressed books, walks and guides, behind many changes of a hall.
        for seed in range(100, 112):
            _, hall, plain = self.compare(seed, 60)
            program, answers = hall.program(), plain.all_answers()
            names = [kind for kind, _ in program[0]]
            for name, groups, cells in tables_of(program):
                book = book_in(program, name)
                pressing, order = pressed(book), best_order(book)
                walk, guide = walk_of(book, order), guide_of(book, order)
                self.assertEqual(all_answers(book), [answers[name, call] for call in all_calls(book)])
                for call in all_calls(book):
                    answer = answers[name, call]
                    self.assertEqual(cell_at(names, groups, cells, call)[0], answer)
                    self.assertEqual(chosen(book[0], pressing, call), answer)
                    self.assertEqual(walked(book[0], walk, order, call), answer)
                    self.assertEqual(guided(book[0], guide, call)[0], answer)
                    self.assertEqual(hall.ask(name, call), answer)

    def test_all_runs_are_the_same(self):
        # [4]: by the walker, the machine, the hall, and of the program read from its text.
        tried = 0
        for seed in range(200, 215):
            _, hall, plain = self.compare(seed, 60)
            program = hall.program()
            again = read(shown(program))
            self.assertEqual(again, program)
            for name, places, _ in program[1]:
                for kinds in list(itertools.product([kind for kind, _ in program[0]], repeat=places))[:20]:
                    things = [(kind, number - 7) for number, kind in enumerate(kinds)]
                    told = plain_outcome(plain.run, name, things)
                    self.assertEqual(outcome(run, program, name, things), told)
                    self.assertEqual(outcome(machine, program, name, things), told)
                    self.assertEqual(outcome(hall.run, name, things), told)
                    self.assertEqual(outcome(hall_of(again).run, name, things), told)
                    tried += 1
        self.assertGreater(tried, 200)


if __name__ == "__main__":
    unittest.main()
