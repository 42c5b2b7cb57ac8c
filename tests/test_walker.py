"""[29] to [31]: programs run by the walker."""

import copy
import unittest

from bestcalls.errors import CallError, NoCall, NoDeed, NoFit, NoKind, Quarrel, TooDeep, TooLong
from bestcalls.walker import run
from helper import Refusals, loose_web, plain_run, some_programs, some_things
from samples import (
    LOOP, MOST, ONWARD, WEB, ladder, long_and_deep, long_program, outcome, rung_call, rung_things)


class TestRun(unittest.TestCase, Refusals):

    def test_steps(self):
        deeds = [("do", 2, [("r", ("a", "a"), [])])]
        for steps, total in (([], 0), ([("say", -5)], -5), ([("tell", 0)], 3), ([("tell", 1)], 40),
                             ([("tell", 1), ("say", 2), ("tell", 0)], 45), ([("say", MOST), ("say", MOST)], 2 * MOST)):
            deeds[0][2][0] = ("r", ("a", "a"), steps)
            self.assertEqual(run((WEB, deeds), "do", [("a", 3), ("d", 40)]), (total, [("do", "r")]))

    def test_a_call_picks_its_things(self):
        deeds = [
            ("do", 2, [("r", ("a", "a"), [
                ("say", 1), ("call", "sub", [("own", 1), ("own", 0)]), ("call", "sub", [("own", 0), ("new", "b", -9)]),
                ("call", "one", [("new", "c", MOST)]), ("call", "one", [("own", 1)])])]),
            ("sub", 2, [("first", ("b", "a"), [("tell", 0)]), ("second", ("a", "b"), [("tell", 1)])]),
            ("one", 1, [("big", ("c",), [("tell", 0), ("tell", 0)]), ("small", ("b",), [("tell", 0)])])]
        told = run((WEB, deeds), "do", [("a", 5), ("b", 70)])
        self.assertEqual(told, (1 + 70 - 9 + 2 * MOST + 70, [
            ("do", "r"), ("sub", "first"), ("sub", "second"), ("one", "big"), ("one", "small")]))

    def test_runs_are_met_as_they_began(self):
        deeds = [("do", 1, [
            ("far", ("a",), [("say", 100), ("call", "do", [("new", "e", 0)])]),
            ("mid", ("b",), [("call", "do", [("new", "a", 0)]), ("say", 10), ("onward",)]),
            ("low", ("d",), [("onward",), ("say", 1)]), ("alone", ("e",), [])])]
        met = ["low", "mid", "far", "alone", "far", "alone"]
        web = [("a", []), ("b", ["a"]), ("d", ["b"]), ("e", [])]
        self.assertEqual(run((web, deeds), "do", [("d", 4)]), (211, [("do", name) for name in met]))

    def test_onward(self):
        self.assertEqual(run(ONWARD, "do", [("d", 7), ("a", 2)]), (1000 + 107, [
            ("do", "low"), ("do", "left"), ("do", "far")]))
        self.assertEqual(run(ONWARD, "do", [("a", 7), ("c", 2)]), (9 + 107, [("do", "right"), ("do", "far")]))
        self.assertEqual(run(ONWARD, "do", [("a", 7), ("a", 2)]), (107, [("do", "far")]))
        self.assert_refused(Quarrel, ("do", ("b", "c"), ("left", "right")), run, ONWARD, "do", [("b", 0), ("c", 0)])
        self.assert_refused(Quarrel, ("do", ("d", "d"), ("right", "low")), run, ONWARD, "do", [("d", 0), ("d", 0)])

    def test_refusals_in_order(self):
        for things in ([], [("a", 0)], [("x", 0)], [("x", 0)] * 5):
            self.assert_refused(NoDeed, "no", run, ONWARD, "no", things)
            self.assert_refused(NoDeed, "far", run, ONWARD, "far", things)
            self.assert_refused(NoCall, None, run, ONWARD, "do", things)
        self.assert_refused(NoDeed, "do", run, (WEB, []), "do", [])
        self.assert_refused(NoKind, "x", run, ONWARD, "do", [("a", 0), ("x", 0)])
        self.assert_refused(NoKind, "y", run, ONWARD, "do", [("y", 0), ("x", 0)])
        self.assert_refused(NoKind, "do", run, ONWARD, "do", [("do", 0), ("a", 0)])
        self.assert_refused(NoFit, ("do", ("e", "a")), run, ONWARD, "do", [("e", 0), ("a", 0)])
        self.assert_refused(NoFit, ("empty", ("a",)), run, ONWARD, "empty", [("a", 0)])

    def test_a_kind_to_come_is_no_things_kind(self):
        for kind in (("a",), ("b", "c")):
            self.assert_refused(NoKind, kind, run, ONWARD, "do", [("a", 0), (kind, 0)])

    def test_names_like_the_words(self):
        deeds = [("call", 1, [("none", ("a",), [("say", 1)]), ("quarrel", ("b",), [("onward",)]),
                              ("rule", ("d",), [("onward",), ("call", "own", [("own", 0)])])]),
                 ("own", 1, [("onward", ("a",), [("tell", 0), ("onward",)])])]
        self.assertEqual(run((WEB, deeds), "call", [("d", 5)]), (6, [
            ("call", "rule"), ("call", "quarrel"), ("call", "none"), ("own", "onward")]))

    def test_refusals_of_inner_calls(self):
        deeds = [
            ("do", 1, [("r", ("a",), [("call", "sub", [("own", 0), ("new", "b", 1)])])]),
            ("sub", 2, [("s", ("c", "a"), []), ("t", ("a", "b"), [])])]
        self.assertEqual(run((WEB, deeds), "do", [("b", 1)]), (0, [("do", "r"), ("sub", "t")]))
        self.assert_refused(Quarrel, ("sub", ("c", "b"), ("s", "t")), run, (WEB, deeds), "do", [("c", 1)])
        deeds[1][2].pop()
        self.assert_refused(NoFit, ("sub", ("b", "b")), run, (WEB, deeds), "do", [("b", 1)])
        self.assertEqual(run((WEB, deeds), "do", [("d", 1)]), (0, [("do", "r"), ("sub", "s")]))

    def test_forty_runs_that_last(self):
        total, met = run(ladder([("say", 7), ("tell", 1)]), "da", rung_things(0))
        self.assertEqual((total, len(met)), (46, 40))
        self.assertEqual(met[:2] + met[-2:], [("da", "ra"), ("da", "rb"), ("dd", "ri"), ("dd", "rj")])
        one_more = rung_call(0)
        self.assert_refused(TooDeep, None, run, ladder([one_more]), "da", rung_things(0))
        self.assert_refused(TooDeep, None, run, ladder([("say", 1), rung_call(39)]), "da", rung_things(0))
        # One run fewer lasts where it begins a rung later.
        for step in (("call", "dd", [("new", "p", 0), ("new", "z", 0)]), ("onward",)):
            extras = [("aside", ("p", "z"), [("say", 3)]), ("top", ("t", "t"), [("say", 3)])]
            self.assert_refused(TooDeep, None, run, ladder([step], extras), "da", rung_things(0))
            total, met = run(ladder([step, ("say", 1)], extras), "da", rung_things(1))
            self.assertEqual((total, len(met)), (4, 40))

    def test_onward_to_none_is_no_run(self):
        total, met = run(ladder([("onward",), ("say", 3)]), "da", rung_things(0))
        self.assertEqual((total, len(met)), (3, 40))

    def test_a_run_that_is_done_lasts_no_more(self):
        total, met = run(ladder([("say", 1)], calls=6), "da", rung_things(0))
        self.assertEqual((total, len(met)), (6, 1 + 6 * 39))

    def test_no_fit_and_quarrel_come_ahead_of_too_deep(self):
        nothing = ladder([("call", "dd", [("new", "z", 0), ("new", "p", 0)])])
        self.assert_refused(NoFit, ("dd", ("z", "p")), run, nothing, "da", rung_things(0))
        pair = ladder([("call", "dd", [("new", "s", 0)] * 2)], [("left", ("s", "t"), []), ("right", ("t", "s"), [])])
        self.assert_refused(Quarrel, ("dd", ("s", "s"), ("left", "right")), run, pair, "da", rung_things(0))
        pair = ladder([("onward",)], [("right", ("t", "q"), []), ("left", ("r", "t"), [])])
        self.assert_refused(Quarrel, ("dd", ("r", "q"), ("right", "left")), run, pair, "da", rung_things(0))

    def test_four_hundred_steps(self):
        total, met = run(long_program(), "one", [("a", 1)])
        self.assertEqual((total, len(met)), (5 + 75 * 4, 1 + 5 + 15 + 75))
        # What the step would do: give something, begin a run, or be refused otherwise.
        for step in (("say", 1), ("tell", 0), ("onward",), ("call", "four", [("own", 0)]),
                     ("call", "four", [("new", "e", 0)]), ("call", "four", [("new", "d", 0)])):
            self.assert_refused(TooLong, None, run, long_program(behind=[step]), "one", [("a", 1)])
            last = outcome(run, long_program(behind=[step], last=3), "one", [("a", 1)])
            self.assertNotEqual(last[0], "TooLong")
        self.assertEqual(last, ("Quarrel", ("four", ("d",), ("s", "t"))))

    def test_the_steps_of_all_runs_are_counted(self):
        self.assert_refused(TooLong, None, run, long_program(ahead=[("say", 1)]), "one", [("a", 1)])
        self.assert_refused(TooLong, None, run, long_program(ahead=[("onward",)]), "one", [("a", 1)])
        self.assert_refused(TooLong, None, run, long_program(last=5), "one", [("a", 1)])

    def test_too_long_comes_ahead_of_too_deep(self):
        self.assert_refused(TooLong, None, run, long_and_deep(4), "do", [("b", 1)])
        self.assert_refused(TooDeep, None, run, long_and_deep(3), "do", [("b", 1)])

    def test_endless_runs(self):
        self.assert_refused(TooDeep, None, run, LOOP, "do", [("a", 1)])

    def test_against_a_plain_reading(self):
        met = {}
        programs = some_programs(120, seed=21) + some_programs(160, most_steps=6, back=0.05, seed=22)
        for number, program in enumerate(programs):
            for name, places, _ in program[1]:
                for things in some_things(program, places, 3, number):
                    expected = plain_run(program, name, things)
                    self.assertEqual(outcome(run, program, name, things), expected, (program, name, things))
                    word = expected[0] if isinstance(expected[0], str) else "told"
                    met[word] = met.get(word, 0) + 1
        self.assertEqual(set(met), {"told", "NoFit", "Quarrel", "TooDeep", "TooLong"})

    def test_the_askers_own(self):
        program = copy.deepcopy(ONWARD)
        self.assert_untouched(run, program, "do", [("d", 7), ("a", 2)])
        self.assertEqual(run(program=program, deed="do", things=[("a", 7), ("a", 2)]), (107, [("do", "far")]))

    def test_a_refused_run_changes_nothing(self):
        for program, deed, things in ((ONWARD, "do", [("d", 0), ("d", 0)]), (LOOP, "do", [("a", 1)])):
            with self.assertRaises(CallError):
                run(program, deed, things)
        self.assertEqual(run(ONWARD, "do", [("a", 7), ("a", 2)]), (107, [("do", "far")]))
        self.assertEqual(run(ladder([("say", 7)]), "da", rung_things(0))[0], 7)

    def test_a_program_changed_between_two_askings(self):
        program = copy.deepcopy(ONWARD)
        things = [("a", 7), ("a", 2)]
        self.assertEqual(run(program, "do", things), (107, [("do", "far")]))
        program[1][0][2][0][2].append(("say", 1))
        self.assertEqual(run(program, "do", things), (108, [("do", "far")]))
        things.pop()
        self.assert_refused(NoCall, None, run, program, "do", things)
        things.append(("e", 0))
        self.assert_refused(NoFit, ("do", ("a", "e")), run, program, "do", things)
        program[0][-1][1].append("a")
        self.assertEqual(run(program, "do", things), (108, [("do", "far")]))
        program[1][0][2].pop(0)
        self.assert_refused(NoFit, ("do", ("a", "e")), run, program, "do", things)

    def test_somewhat_beyond_the_limits(self):
        deeds = [("do", 4, [("r", ("a", "b", "c", "d"), [("say", 10 ** 40)] * 8 + [("tell", 3)])])]
        web = loose_web(12)
        self.assertEqual(run((web, deeds), "do", [(name, 10 ** 35) for name in "abcd"])[0], 8 * 10 ** 40 + 10 ** 35)


if __name__ == "__main__":
    unittest.main()
