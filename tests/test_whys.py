"""[11]: papers for a call and an answer."""

import copy
import itertools
import unittest

from bestcalls.errors import NoCall, NoKind
from bestcalls.whys import shows, why
from helper import (
    ANYTHING, DIAMOND, Refusals, plain_answer, plain_arm_stands, plain_fitting, plain_nearer, some_books, some_calls,
    spoiled)

BOOK = (DIAMOND, 2, [("far", ("a", "a")), ("left", ("b", "a")), ("right", ("a", "d")), ("alone", ("f", "f"))])


def plain_line(book, call, rule, line):
    """Whether a line is right for the rule, as the document says it."""
    name, kinds = rule
    fit = plain_fitting(book, call)
    if type(line) is not tuple or len(line) == 0:
        return False
    if line[0] == "out" and len(line) == 2 and type(line[1]) is int and line[1] in range(book[1]):
        return not plain_arm_stands(book[0], call[line[1]], kinds[line[1]])
    if line[0] == "far" and len(line) == 2 and type(line[1]) is str and line[1] in fit:
        return name in fit and plain_nearer(book[0], dict(book[2])[line[1]], kinds)
    return line == ("near",) and name in fit


def plain_shows(book, call, answer, paper):
    """Whether a paper shows an answer, as the document says it."""
    rules = book[2]
    if type(paper) is not list or len(paper) != len(rules):
        return False
    if not all(plain_line(book, call, rule, line) for rule, line in zip(rules, paper)):
        return False
    near = [rule for rule, line in zip(rules, paper) if line[0] == "near"]
    if any(plain_nearer(book[0], one[1], other[1]) for one in near for other in near):
        return False
    names = tuple(name for name, _ in near)
    if len(names) < 2:
        return answer == (("rule",) + names if names else ("none",))
    return answer == ("quarrel", names)


class TestWhys(unittest.TestCase, Refusals):

    def test_told_papers(self):
        self.assertEqual(why(BOOK, ("a", "a")), [("near",), ("out", 0), ("out", 1), ("out", 0)])
        self.assertEqual(why(BOOK, ("b", "c")), [("far", "left"), ("near",), ("out", 1), ("out", 0)])
        self.assertEqual(why((DIAMOND, 1, []), ("a",)), [])
        self.assertIs(shows((DIAMOND, 1, []), ("a",), ("none",), []), True)

    def test_told_papers_show_the_answer_and_no_other(self):
        for number, book in enumerate(some_books(120, most_places=3, seed=4)):
            for call in some_calls(book, 6, number):
                paper = why(book, call)
                answer = plain_answer(book, call)
                self.assertTrue(plain_shows(book, call, answer, paper))
                self.assertIs(shows(book, call, answer, paper), True)
                for name, _ in book[2]:
                    self.assertIs(shows(book, call, ("rule", name), paper), answer == ("rule", name))
                self.assertIs(shows(book, call, ("none",), paper), answer == ("none",))

    def test_whoever_wrote_it(self):
        book = (DIAMOND, 2, BOOK[2][:3])
        lines = [("out", 0), ("out", 1), ("far", "far"), ("far", "left"), ("far", "right"), ("near",)]
        answers = [("none",), ("rule", "far"), ("rule", "left"), ("rule", "right"), ("quarrel", ("left", "right")),
                   ("quarrel", ("right", "left")), ("quarrel", ("far", "left"))]
        for call in itertools.product(("a", "e", "f", "d", ("b", "f")), repeat=2):
            let_by = 0
            for paper in itertools.product(lines, repeat=3):
                for answer in answers:
                    told = shows(book, call, answer, list(paper))
                    self.assertIs(told, plain_shows(book, call, answer, list(paper)))
                    if told:
                        self.assertEqual(answer, plain_answer(book, call))
                        let_by += 1
            self.assertGreaterEqual(let_by, 1)

    def test_wrong_papers(self):
        call, answer = ("e", "e"), ("quarrel", ("left", "right"))
        right = [("far", "left"), ("near",), ("near",), ("out", 1)]
        self.assertIs(shows(BOOK, call, answer, right), True)
        self.assertIs(shows(BOOK, call, answer, [("far", "right"), ("near",), ("near",), ("out", 0)]), True)
        wrong = [
            right[:3], right + [("near",)], tuple(right), [list(line) for line in right],
            [("near",)] + right[1:], [("far", "far")] + right[1:], [("far", "alone")] + right[1:],
            [("far", "none")] + right[1:], [("far",)] + right[1:], [("far", "left", "right")] + right[1:],
            [("out", 0)] + right[1:], right[:3] + [("out", 2)], right[:3] + [("out", -1)], right[:3] + [("out", True)],
            right[:3] + [("out", False)], right[:3] + [("out",)], right[:3] + [("out", "0")], right[:3] + [("near",)],
            right[:3] + [("out", 0, 0)], right[:3] + [("far", "left")], right[:3] + [("out", 10 ** 99)],
        ]
        for paper in wrong:
            self.assertIs(shows(BOOK, call, answer, paper), False, paper)
        for other in (["quarrel", ("left", "right")], ("quarrel", ["left", "right"]), ("quarrel", ("right", "left")),
                      ("quarrel", "left", "right"), ("quarrel",), ("rule", "left"), ("none",), None):
            self.assertIs(shows(BOOK, call, other, right), False, other)

    def test_anything(self):
        call, answer = ("e", "e"), ("quarrel", ("left", "right"))
        right = why(BOOK, call)
        for paper in spoiled(right):
            self.assertIs(shows(BOOK, call, answer, paper), plain_shows(BOOK, call, answer, paper), paper)
        for other in spoiled(answer):
            self.assertIs(shows(BOOK, call, other, right), other == answer, other)
        for other in ANYTHING:
            for paper in ANYTHING:
                self.assertIs(shows(BOOK, call, other, paper), False)
        for other in ANYTHING:
            self.assertIs(shows((DIAMOND, 1, []), ("a",), other, []), other == ("none",))

    def test_no_call_and_then_no_kind(self):
        for answer, paper in (((None), None), (("none",), [])):
            self.assert_refused(NoCall, None, shows, BOOK, ("a",), answer, paper)
            self.assert_refused(NoCall, None, shows, BOOK, ("x", "a", "a"), answer, paper)
            self.assert_refused(NoKind, "y", shows, BOOK, (("a", "y"), "x"), answer, paper)
        self.assert_refused(NoCall, None, why, BOOK, ("x", "a", "a"))
        self.assert_refused(NoKind, "y", why, BOOK, (("a", "y"), "x"))
        self.assertIs(shows(BOOK, ("a", "a"), ("rule", "x"), why(BOOK, ("a", "a"))), False)

    def test_the_askers_own(self):
        book, call = copy.deepcopy(BOOK), ("e", ("f", "d"))
        paper = self.assert_untouched(why, book, call)
        self.assert_untouched(shows, book, call, plain_answer(book, call), paper)

    def test_a_book_changed_between_two_askings(self):
        book = ([("a", []), ("b", [])], 1, [("r", ("a",))])
        self.assertEqual(why(book, ("b",)), [("out", 0)])
        self.assertIs(shows(book, ("b",), ("none",), [("out", 0)]), True)
        book[0][1][1].append("a")
        self.assertEqual(why(book, ("b",)), [("near",)])
        self.assertIs(shows(book, ("b",), ("none",), [("out", 0)]), False)
        book[2].append(("s", ("b",)))
        self.assertEqual(why(book, ("b",)), [("far", "s"), ("near",)])


if __name__ == "__main__":
    unittest.main()
