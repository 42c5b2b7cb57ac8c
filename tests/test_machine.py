"""[33], [34]: the machine's states and moves, and programs run by it."""

import copy
import unittest

from bestcalls.errors import NoCall, NoDeed, NoFit, NoKind, Quarrel, TooDeep, TooLong
from bestcalls.machine import machine, move, start
from bestcalls.tables import tables_of
from bestcalls.walker import run
from helper import (
    Refusals, plain_answer, plain_answer_of, plain_fitting, plain_nearer, plain_run, some_programs, some_things)
from samples import (
    FULL, LOOP, MOST, ONWARD, WEB, ladder, long_and_deep, long_program, outcome, rung_call, rung_things)


def plain_choice(program, deed, things, rule=None):
    """The answer for the things, or onward from the rule, as the document says it."""
    web, deeds = program
    rules = [(name, kinds) for one, _, rules in deeds if one == deed for name, kinds, _ in rules]
    book, call = (web, len(things), rules), tuple(kind for kind, _ in things)
    if rule is None:
        return plain_answer(book, call)
    fit = plain_fitting(book, call)
    return plain_answer_of(book, [name for name in fit if plain_nearer(web, dict(rules)[rule], dict(rules)[name])])


def plain_move(program, state):
    """The next state, or a text for a refusal, as the document says it."""
    frames, met, begun, whole = copy.deepcopy(state)
    if not frames:
        return state
    deed, rule, things, step, total = frames.pop()
    steps = [steps for one, _, rules in program[1] if one == deed for name, _, steps in rules if name == rule][0]
    if step == len(steps):
        if frames:
            ahead = frames.pop()
            return (frames + [ahead[:4] + (ahead[4] + total,)], met, begun, None)
        return ([], met, begun, total)
    if begun == 400:
        return "TooLong"
    word, *more = steps[step]
    answer = ("none",)
    if word == "say":
        total += more[0]
    elif word == "tell":
        total += things[more[0]][1]
    elif word == "call":
        picked = tuple(things[pick[1]] if pick[0] == "own" else (pick[1], pick[2]) for pick in more[1])
        answer = plain_choice(program, more[0], picked)
        new = (more[0], answer[-1], picked, 0, 0)
        if answer == ("none",):
            return "NoFit"
    else:
        answer = plain_choice(program, deed, things, rule)
        new = (deed, answer[-1], things, 0, 0)
    if answer[0] == "quarrel":
        return "Quarrel"
    frames.append((deed, rule, things, step + 1, total))
    if answer[0] == "rule":
        if len(frames) == 40:
            return "TooDeep"
        return (frames + [new], met + [new[:2]], begun + 1, None)
    return (frames, met, begun + 1, None)


def states_of(program, deed, things):
    """All states of a run, and the name of the refusal that ends it or None."""
    tables = tables_of(program)
    states = [start(program, tables, deed, things)]
    while states[-1][0]:
        following = outcome(move, program, tables, states[-1])
        if isinstance(following[0], str):
            return states, following[0]
        states.append(following)
    return states, None


def state_ahead(program, deed, things):
    """The state whose move is refused, with the tables."""
    return tables_of(program), states_of(program, deed, things)[0][-1]


class TestStates(unittest.TestCase, Refusals):

    def test_start(self):
        tables = tables_of(ONWARD)
        self.assertEqual(start(ONWARD, tables, "do", [("a", 7), ("a", 2)]), (
            [("do", "far", (("a", 7), ("a", 2)), 0, 0)], [("do", "far")], 0, None))
        self.assertEqual(start(program=ONWARD, tables=tables, deed="do", things=[("d", 7), ("d", MOST)]), (
            [("do", "lowest", (("d", 7), ("d", MOST)), 0, 0)], [("do", "lowest")], 0, None))

    def test_start_is_refused(self):
        tables = tables_of(ONWARD)
        for things in ([], [("a", 0)], [("x", 0)], [("x", 0)] * 5):
            self.assert_refused(NoDeed, "no", start, ONWARD, tables, "no", things)
            self.assert_refused(NoCall, None, start, ONWARD, tables, "do", things)
        self.assert_refused(NoDeed, "do", start, (WEB, []), [], "do", [])
        self.assert_refused(NoKind, "x", start, ONWARD, tables, "do", [("a", 0), ("x", 0)])
        self.assert_refused(NoKind, "y", start, ONWARD, tables, "do", [("y", 0), ("x", 0)])
        self.assert_refused(NoFit, ("do", ("e", "a")), start, ONWARD, tables, "do", [("e", 0), ("a", 0)])
        self.assert_refused(NoFit, ("empty", ("a",)), start, ONWARD, tables, "empty", [("a", 0)])
        self.assert_refused(Quarrel, ("do", ("b", "c"), ("left", "right")), start, ONWARD, tables, "do",
                            [("b", 0), ("c", 0)])

    def test_moves(self):
        deeds = [
            ("do", 2, [("low", ("b", "a"), [("say", 5), ("onward",), ("tell", 1)]), ("far", ("a", "a"), [
                ("call", "go", [("own", 1), ("new", "e", -3), ("own", 0)]), ("onward",)])]),
            ("go", 3, [("r", ("a", "e", "a"), [("tell", 1), ("tell", 2)])])]
        program, things = (WEB, deeds), (("b", 10), ("d", 200))
        met = [("do", "low"), ("do", "far"), ("go", "r")]
        low, far, go = ("do", "low", things), ("do", "far", things), ("go", "r", (("d", 200), ("e", -3), ("b", 10)))
        self.assertEqual(states_of(program, "do", list(things)), ([
            ([low + (0, 0)], met[:1], 0, None),
            ([low + (1, 5)], met[:1], 1, None),
            ([low + (2, 5), far + (0, 0)], met[:2], 2, None),
            ([low + (2, 5), far + (1, 0), go + (0, 0)], met, 3, None),
            ([low + (2, 5), far + (1, 0), go + (1, -3)], met, 4, None),
            ([low + (2, 5), far + (1, 0), go + (2, 7)], met, 5, None),
            ([low + (2, 5), far + (1, 7)], met, 5, None),
            ([low + (2, 5), far + (2, 7)], met, 6, None),
            ([low + (2, 12)], met, 6, None),
            ([low + (3, 212)], met, 7, None),
            ([], met, 7, 212)], None))

    def test_a_rule_without_steps(self):
        program = (WEB, [("do", 1, [("r", ("a",), [])])])
        self.assertEqual(states_of(program, "do", [("a", 5)])[0], [
            ([("do", "r", (("a", 5),), 0, 0)], [("do", "r")], 0, None), ([], [("do", "r")], 0, 0)])

    def test_a_state_without_frames_stays(self):
        tables = tables_of(ONWARD)
        for state in (([], [("do", "far")], 3, 107), ([], [("do", "far")], 400, 0), ([], [("do", "far")] * 2, 7, -MOST)):
            self.assertEqual(self.assert_untouched(move, ONWARD, tables, state), state)
        state = ([], [("do", "far")], 3, 107)
        told = move(ONWARD, tables, state)
        told[0].append("ruined")
        told[1].append("ruined")
        self.assertEqual(state, ([], [("do", "far")], 3, 107))

    def test_forty_frames_and_one_more(self):
        extras = [("top", ("t", "t"), [])]
        for step in (rung_call(0), ("onward",)):
            program = ladder([step], extras)
            tables, state = state_ahead(program, "da", rung_things(0))
            self.assertEqual((len(state[0]), len(state[1]), state[2], state[3]), (40, 40, 39, None))
            self.assert_refused(TooDeep, None, move, program, tables, state)
        program = ladder([("onward",), ("say", 3)])
        states, refusal = states_of(program, "da", rung_things(0))
        self.assertIsNone(refusal)
        self.assertEqual(max(len(frames) for frames, _, _, _ in states), 40)
        self.assertEqual(states[40], (states[39][0][:-1] + [states[39][0][-1][:3] + (1, 0)], states[39][1], 40, None))

    def test_no_fit_and_quarrel_come_ahead_of_too_deep(self):
        program = ladder([("call", "dd", [("new", "z", 0), ("new", "p", 0)])])
        tables, state = state_ahead(program, "da", rung_things(0))
        self.assert_refused(NoFit, ("dd", ("z", "p")), move, program, tables, state)
        program = ladder([("call", "dd", [("new", "s", 0)] * 2)], [("left", ("s", "t"), []), ("right", ("t", "s"), [])])
        tables, state = state_ahead(program, "da", rung_things(0))
        self.assert_refused(Quarrel, ("dd", ("s", "s"), ("left", "right")), move, program, tables, state)
        program = ladder([("onward",)], [("right", ("t", "q"), []), ("left", ("r", "t"), [])])
        tables, state = state_ahead(program, "da", rung_things(0))
        self.assert_refused(Quarrel, ("dd", ("r", "q"), ("right", "left")), move, program, tables, state)

    def test_four_hundred_steps_begun_and_one_more(self):
        states, refusal = states_of(long_program(), "one", [("a", 1)])
        self.assertEqual((states[-1][2], states[-1][3], refusal), (400, 305, None))
        for step in (("say", 1), ("tell", 0), ("onward",), ("call", "four", [("own", 0)]),
                     ("call", "four", [("new", "e", 0)]), ("call", "four", [("new", "d", 0)])):
            program = long_program(behind=[step])
            tables, state = state_ahead(program, "one", [("a", 1)])
            self.assertEqual((len(state[0]), state[2]), (1, 400))
            self.assert_refused(TooLong, None, move, program, tables, state)

    def test_too_long_comes_ahead_of_too_deep(self):
        for count, kind in ((4, TooLong), (3, TooDeep)):
            program = long_and_deep(count)
            tables, state = state_ahead(program, "do", [("b", 1)])
            self.assertEqual((len(state[0]), state[2]), (40, 396 + count))
            self.assert_refused(kind, None, move, program, tables, state)

    def test_against_a_plain_reading(self):
        met = {}
        programs = some_programs(90, seed=31) + some_programs(110, most_steps=6, back=0.05, seed=32)
        for number, program in enumerate(programs + [long_program(last=5)]):
            for name, places, _ in program[1]:
                for things in some_things(program, places, 2, number):
                    if outcome(start, program, tables_of(program), name, things)[0] in ("NoFit", "Quarrel"):
                        self.assertEqual(outcome(run, program, name, things), plain_run(program, name, things))
                        continue
                    states, refusal = states_of(program, name, things)
                    for state, following in zip(states, states[1:]):
                        self.assertEqual(following, plain_move(program, state))
                    self.assertEqual(plain_move(program, states[-1]), refusal or states[-1])
                    met[refusal] = met.get(refusal, 0) + 1
        self.assertEqual(set(met), {None, "NoFit", "Quarrel", "TooDeep", "TooLong"})

    def test_the_askers_own(self):
        program = copy.deepcopy(ONWARD)
        tables = tables_of(program)
        things = [("d", 7), ("a", 2)]
        state = self.assert_untouched(start, program, tables, "do", things)
        kept = start(program, tables, "do", things)
        things.append(("a", 0))
        self.assertEqual(kept, state)
        while state[0]:
            state = self.assert_untouched(move, program, tables, state)
        self.assertEqual(state[3], 1107)


class TestMachine(unittest.TestCase, Refusals):

    def test_runs(self):
        self.assertEqual(machine(ONWARD, "do", [("d", 7), ("a", 2)]), (1107, [
            ("do", "low"), ("do", "left"), ("do", "far")]))
        self.assertEqual(machine(program=ONWARD, deed="do", things=[("a", 7), ("a", 2)]), (107, [("do", "far")]))
        self.assertEqual(machine((WEB, [("do", 1, [("r", ("a",), [])])]), "do", [("b", 1)]), (0, [("do", "r")]))

    def test_refusals(self):
        for things in ([], [("x", 0)]):
            self.assert_refused(NoDeed, "no", machine, ONWARD, "no", things)
            self.assert_refused(NoDeed, "do", machine, (WEB, []), "do", things)
            self.assert_refused(NoCall, None, machine, ONWARD, "do", things)
        self.assert_refused(NoKind, "x", machine, ONWARD, "do", [("a", 0), ("x", 0)])
        for kind in (("a",), ("b", "c")):
            self.assert_refused(NoKind, kind, machine, ONWARD, "do", [("a", 0), (kind, 0)])
        self.assert_refused(NoFit, ("do", ("e", "a")), machine, ONWARD, "do", [("e", 0), ("a", 0)])
        self.assert_refused(Quarrel, ("do", ("b", "c"), ("left", "right")), machine, ONWARD, "do", [("b", 0), ("c", 0)])
        self.assert_refused(Quarrel, ("do", ("d", "d"), ("right", "low")), machine, ONWARD, "do", [("d", 0), ("d", 0)])
        self.assert_refused(TooDeep, None, machine, LOOP, "do", [("a", 1)])
        self.assert_refused(TooLong, None, machine, long_program(ahead=[("say", 1)]), "one", [("a", 1)])

    def test_the_same_as_the_walker_at_the_edges(self):
        extras = [("top", ("t", "t"), [("say", 3)])]
        for program in (ladder([]), ladder([("tell", 1)], calls=6), ladder([rung_call(0)]), ladder([("onward",)]),
                        ladder([("onward",)], extras), ladder([rung_call(39)], extras)):
            for number in (0, 1, 38, 39):
                asked = (program, "da" if number < 2 else "dd", rung_things(number))
                self.assertEqual(outcome(machine, *asked), outcome(run, *asked))
        for program in (long_program(), long_program(ahead=[("onward",)]), long_program(last=5), long_program(last=3)):
            asked = (program, "one", [("a", 1)])
            self.assertEqual(outcome(machine, *asked), outcome(run, *asked))
        for count in range(5):
            asked = (long_and_deep(count), "do", [("b", 1)])
            self.assertEqual(outcome(machine, *asked), outcome(run, *asked))
        for kind in ("kindabca", "kindabcd", "kindabcf"):
            asked = (FULL, "deedabcc", [(kind, 1)] * 3)
            self.assertEqual(outcome(machine, *asked), outcome(run, *asked))

    def test_the_same_as_the_walker(self):
        met = {}
        programs = some_programs(150, seed=33) + some_programs(200, most_steps=6, back=0.05, seed=34)
        programs += some_programs(30, most=6, most_rules=12, most_steps=6, back=0.05, seed=35)
        for number, program in enumerate(programs):
            for name, places, _ in program[1]:
                for things in some_things(program, places, 3, number):
                    told = outcome(machine, program, name, things)
                    self.assertEqual(told, outcome(run, program, name, things), (program, name, things))
                    self.assertEqual(told, plain_run(program, name, things), (program, name, things))
                    word = told[0] if isinstance(told[0], str) else "told"
                    met[word] = met.get(word, 0) + 1
        self.assertEqual(set(met), {"told", "NoFit", "Quarrel", "TooDeep", "TooLong"})

    def test_names_like_the_words(self):
        deeds = [("call", 1, [("none", ("a",), [("say", 1)]), ("quarrel", ("b",), [("onward",)]),
                              ("rule", ("d",), [("onward",), ("call", "own", [("own", 0)])])]),
                 ("own", 1, [("onward", ("a",), [("tell", 0), ("onward",)])])]
        self.assertEqual(machine((WEB, deeds), "call", [("d", 5)]), (6, [
            ("call", "rule"), ("call", "quarrel"), ("call", "none"), ("own", "onward")]))

    def test_the_askers_own(self):
        self.assert_untouched(machine, copy.deepcopy(ONWARD), "do", [("d", 7), ("a", 2)])

    def test_a_program_changed_between_two_askings(self):
        program, things = copy.deepcopy(ONWARD), [("a", 7), ("a", 2)]
        self.assertEqual(machine(program, "do", things), (107, [("do", "far")]))
        program[1][0][2][0][2].append(("say", 1))
        self.assertEqual(machine(program, "do", things), (108, [("do", "far")]))
        things[1] = ("e", 0)
        self.assert_refused(NoFit, ("do", ("a", "e")), machine, program, "do", things)
        program[0][-1][1].append("a")
        self.assertEqual(machine(program, "do", things), (108, [("do", "far")]))


if __name__ == "__main__":
    unittest.main()
