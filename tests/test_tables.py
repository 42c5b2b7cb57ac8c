"""[32]: the tables of a program."""

import copy
import itertools
import unittest

from bestcalls.programs import book_in
from bestcalls.tables import tables_of
from helper import (
    DIAMOND, Refusals, loose_web, plain_answer, plain_answer_of, plain_fitting, plain_nearer, plain_stands, some_programs)
from samples import LADDER_WEB, ONWARD, WEB, ladder


def plain_groups(web, kinds_there):
    """The group numbers, where of one group are those that stand on the same of these kinds."""
    seen, row = [], []
    for name, _ in web:
        mark = {kind for kind in kinds_there if plain_stands(web, name, kind)}
        if mark not in seen:
            seen.append(mark)
        row.append(seen.index(mark))
    return row


def plain_tables(program):
    """The tables as the document says them, each cell from the last kinds of its groups."""
    web, deeds = program
    told = []
    for deed, places, rules in deeds:
        book = (web, places, [(name, kinds) for name, kinds, _ in rules])
        groups = [plain_groups(web, {kinds[place] for _, kinds, _ in rules}) for place in range(places)]
        cells = []
        for numbers in itertools.product(*[range(max(row) + 1) for row in groups]):
            call = tuple([name for (name, _), number in zip(web, groups[place]) if number == numbers[place]][-1]
                         for place in range(places))
            onwards = []
            for name in plain_fitting(book, call):
                own = dict(book[2])[name]
                farther = [other for other in plain_fitting(book, call) if plain_nearer(web, own, dict(book[2])[other])]
                onwards.append((name, plain_answer_of(book, farther)))
            cells.append((plain_answer(book, call), onwards))
        told.append((deed, groups, cells))
    return told


class TestTables(unittest.TestCase, Refusals):

    def test_no_deeds_and_no_rules(self):
        self.assertEqual(tables_of((WEB, [])), [])
        self.assertEqual(tables_of((WEB, [("do", 1, []), ("go", 3, [])])), [
            ("do", [[0] * 5], [(("none",), [])]), ("go", [[0] * 5] * 3, [(("none",), [])])])
        self.assertEqual(tables_of(([("a", [])], [("do", 1, [("r", ("a",), [])])])), [
            ("do", [[0]], [(("rule", "r"), [("r", ("none",))])])])

    def test_groups(self):
        program = (DIAMOND, [("do", 2, [("r", ("b", "f"), []), ("s", ("a", "f"), []), ("t", ("c", "f"), [])])])
        name, groups, cells = tables_of(program)[0]
        self.assertEqual(groups, [[0, 1, 2, 2, 3, 4], [0, 0, 0, 0, 0, 1]])
        none = (("none",), [])
        far = ("rule", "s")
        self.assertEqual(cells, [
            none, (far, [("s", ("none",))]), none, (("rule", "r"), [("r", far), ("s", ("none",))]),
            none, (("rule", "t"), [("s", ("none",)), ("t", far)]),
            none, (("quarrel", ("r", "t")), [("r", far), ("s", ("none",)), ("t", far)]), none, none])

    def test_the_kinds_of_all_rules_at_the_place_part_the_groups(self):
        # The answers alone would need fewer groups at each place.
        program = (WEB, [("do", 2, [("r", ("a", "b"), []), ("s", ("b", "b"), [])])])
        self.assertEqual(tables_of(program)[0][1], [[0, 1, 0, 1, 2], [0, 1, 0, 1, 0]])
        program = (WEB, [("do", 1, [("r", ("a",), []), ("s", ("b",), []), ("t", ("c",), [])])])
        self.assertEqual(tables_of(program)[0][1], [[0, 1, 2, 3, 4]])

    def test_onward(self):
        name, groups, cells = tables_of(ONWARD)[0]
        self.assertEqual(groups, [[0, 1, 0, 2, 3], [0, 0, 1, 2, 3]])
        self.assertEqual(cells[2 * 4 + 2], (("rule", "lowest"), [
            ("far", ("none",)), ("left", ("rule", "far")), ("right", ("rule", "far")), ("low", ("rule", "left")),
            ("lowest", ("quarrel", ("right", "low")))]))
        self.assertEqual(tables_of(ONWARD)[1], ("empty", [[0] * 5], [(("none",), [])]))

    def test_three_places(self):
        program = (loose_web(6), [("do", 3, [
            (name, kinds, []) for name, kinds in zip("abcdef", itertools.permutations("abc"))])])
        name, groups, cells = tables_of(program)[0]
        self.assertEqual(groups, [[0, 1, 2, 3, 3, 3]] * 3)
        self.assertEqual(len(cells), 64)
        self.assertEqual(cells[0 * 16 + 1 * 4 + 2], (("rule", "a"), [("a", ("none",))]))
        self.assertEqual(cells[2 * 16 + 0 * 4 + 1], (("rule", "e"), [("e", ("none",))]))
        self.assertEqual(program[1][0][2][4][1], ("c", "a", "b"))
        self.assertEqual(len([cell for cell in cells if cell == (("none",), [])]), 58)

    def test_against_a_plain_reading(self):
        for program in some_programs(150, seed=23) + some_programs(20, most=6, most_rules=12, seed=24) + [ladder([])]:
            self.assertEqual(tables_of(program), plain_tables(program))

    def test_each_call_by_its_groups(self):
        for program in some_programs(60, most=5, most_rules=9, seed=25):
            names = [name for name, _ in program[0]]
            for (deed, places, _), (name, groups, cells) in zip(program[1], tables_of(program)):
                self.assertEqual(name, deed)
                for call in itertools.product(names, repeat=places):
                    number = 0
                    for place, kind in enumerate(call):
                        number = number * (max(groups[place]) + 1) + groups[place][names.index(kind)]
                    self.assertEqual(cells[number][0], plain_answer(book_in(program, deed), call))

    def test_the_askers_own(self):
        for program in (copy.deepcopy(ONWARD), ladder([]), (copy.deepcopy(LADDER_WEB), [("do", 2, [])])):
            self.assert_untouched(tables_of, program)
        name, groups, cells = tables_of((WEB, [("go", 3, [])]))[0]
        groups[0].append(7)
        self.assertEqual(groups[1:], [[0] * 5] * 2)

    def test_a_program_changed_between_two_askings(self):
        program = ([("a", []), ("b", [])], [("do", 1, [("r", ("a",), [])])])
        self.assertEqual(tables_of(program)[0][1], [[0, 1]])
        program[0][1][1].append("a")
        self.assertEqual(tables_of(program)[0][1], [[0, 0]])
        program[1][0][2].append(("s", ("b",), []))
        self.assertEqual(tables_of(program), [("do", [[0, 1]], [
            (("rule", "r"), [("r", ("none",))]), (("rule", "s"), [("r", ("none",)), ("s", ("rule", "r"))])])])


if __name__ == "__main__":
    unittest.main()
