"""[18]: free papers."""

import copy
import itertools
import unittest

from bestcalls.enders import enders
from bestcalls.errors import Quarrel
from bestcalls.papers import free_paper, shows_free
from helper import (
    ANYTHING, DIAMOND, Refusals, kind_names, loose_web, plain_fits, plain_meets, plain_nearer, plain_quarrel,
    some_books, some_sorts, spoiled)

# Left and right meet at four calls of names.
WEB = [("a", []), ("b", []), ("c", ["a", "b"]), ("d", ["a", "b"])]
BOOK = (WEB, 2, [
    ("left", ("a", "a")), ("right", ("b", "b")), ("one", ("c", "c")), ("two", ("d", "c")), ("three", ("c", "d")),
    ("four", ("d", "d"))])
PAPER = [
    ("left", "right", ("c", "c"), "one"), ("left", "right", ("c", "d"), "three"), ("left", "right", ("d", "c"), "two"),
    ("left", "right", ("d", "d"), "four")]


def plain_free_paper(book, sort):
    """The paper as the document says it; None where one of its lines has no rule that is nearer than both."""
    web, places, rules = book
    told = []
    for one, other in itertools.combinations(rules, 2):
        if plain_nearer(web, one[1], other[1]) or plain_nearer(web, other[1], one[1]):
            continue
        rows = [plain_meets(web, sort, one[1][place], other[1][place]) for place in range(places)]
        for call in itertools.product(*rows):
            by = [name for name, kinds in rules if plain_fits(web, kinds, call)
                  and plain_nearer(web, kinds, one[1]) and plain_nearer(web, kinds, other[1])]
            if len(by) != 1:
                return None
            told.append((one[0], other[0], call, by[0]))
    return told


def ended(book):
    """The book with rules of its enders."""
    calls = enders(book)
    return (book[0], book[1], book[2] + list(zip(kind_names(len(calls), 3), calls)))


class TestFreePapers(unittest.TestCase, Refusals):

    def test_few_rules(self):
        for sort in ([], [["b", "c", "f"]], [["b", "c"], ["a", "f"]]):
            for rules in ([], [("r", ("b", "c"))], [("r", ("b", "c")), ("s", ("a", "c"))]):
                self.assertEqual(free_paper((DIAMOND, 2, rules), sort), [])
                self.assertIs(shows_free((DIAMOND, 2, rules), sort, []), True)
                self.assertIs(shows_free((DIAMOND, 2, rules), sort, ()), False)

    def test_a_paper(self):
        self.assertEqual(free_paper(BOOK, []), PAPER)
        self.assertIs(shows_free(BOOK, [], copy.deepcopy(PAPER)), True)
        for sort in ([[]], [["a"], ["b"]], [["a", "c"], ["d", "b"]]):
            self.assertEqual(free_paper(BOOK, sort), PAPER)
        self.assert_refused(Quarrel, (("c", ("c", "d")), ("one", "three")), free_paper, BOOK, [["c", "d"]])

    def test_nearer_rules_are_left_out(self):
        chain = (DIAMOND, 1, [("r", ("e",)), ("s", ("d",)), ("t", ("c",)), ("u", ("a",)), ("v", ("b",))])
        self.assertEqual(free_paper(chain, []), [("s", "v", ("e",), "r"), ("t", "v", ("e",), "r")])

    def test_by_the_order_of_the_one_and_then_of_the_other(self):
        web = loose_web(3) + [("d", ["a", "b"]), ("e", ["b", "c"]), ("f", ["d", "e"])]
        rules = [("z", ("f",)), ("y", ("c",)), ("x", ("b",)), ("w", ("a",)), ("v", ("e",)), ("u", ("d",))]
        self.assertEqual(free_paper((web, 1, rules), []), [
            ("y", "x", ("e",), "v"), ("y", "w", ("f",), "z"), ("y", "u", ("f",), "z"), ("x", "w", ("d",), "u"),
            ("w", "v", ("f",), "z"), ("v", "u", ("f",), "z")])

    def test_three_places(self):
        web = [("a", []), ("b", ["a"]), ("c", ["a"]), ("d", ["b", "c"])]
        rules = [("r", ("b", "a", "a")), ("s", ("a", "a", "c")), ("t", ("b", "a", "c"))]
        self.assertEqual(free_paper((web, 3, rules), []), [("r", "s", ("b", "a", "c"), "t")])
        self.assertEqual(free_paper((web, 3, rules), [["b", "c"]]), [("r", "s", ("b", "a", "c"), "t")])

    def test_refused_where_it_is_not_free(self):
        book = ([("a", []), ("b", [])], 1, [("r", ("a",)), ("s", ("b",))])
        self.assertEqual(free_paper(book, []), [])
        self.assert_refused(Quarrel, ((("a", "b"),), ("r", "s")), free_paper, book, [["a", "b"]])
        self.assert_refused(Quarrel, ((("a", "b"),), ("r", "s")), free_paper, book, [["a"], ["b", "a"]])
        self.assert_refused(Quarrel, (("c", ("a", "b")), ("two", "three")), free_paper,
                            (WEB, 2, [("two", ("c", "a")), ("three", ("c", "b"))]), [["b", "a"], ["c"]])
        for number in range(2, 6):
            rules = BOOK[2][:number] + BOOK[2][number + 1:]
            short = (WEB, 2, rules)
            self.assert_refused(Quarrel, (BOOK[2][number][1], ("left", "right")), free_paper, short, [])
            for paper in ([], PAPER, PAPER[:3], PAPER[1:], ANYTHING):
                self.assertIs(shows_free(short, [], paper), False)

    def test_twelve_rules(self):
        web = loose_web(5) + [(name, []) for name in "fghij"]
        rules = [(name, kinds) for name, kinds in zip(kind_names(12, 2), itertools.product("abc", "fghi"))]
        self.assertEqual(free_paper((web, 2, rules), []), [])
        self.assert_refused(Quarrel, (("a", ("f", "g")), ("aa", "ab")), free_paper, (web, 2, rules),
                            [list("abcde"), list("fghij")])
        web = [("a", [])] + [(name, ["a"]) for name in "bcdefghij"]
        kinds = [("a", name) for name in "bcde"] + [(name, "a") for name in "fg"]
        kinds += [(one, other) for one in "fg" for other in "bcd"]
        book = (web, 2, list(zip(kind_names(12, 2), kinds)))
        self.assert_refused(Quarrel, plain_quarrel(book, []), free_paper, book, [])
        full = (web, 2, book[2][:3] + book[2][4:] + [("zz", ("h", "h"))])
        paper = free_paper(full, [["h", "i"], ["i", "j"]])
        self.assertEqual(len(paper), 6)
        self.assertEqual(paper, plain_free_paper(full, []))

    def test_more_than_twelve_rules(self):
        book = ended((WEB, 2, [("r", ("a", "b")), ("s", ("b", "a")), ("t", ("a", "a")), ("u", ("b", "b"))]))
        more = ended(([("x", [])] + WEB, 2, [("p", ("x", "x"))] + book[2] + [
            (name, ("x", kind)) for name, kind in zip(["aa", "ab", "ac", "ad"], "abcd")]))
        self.assertGreater(len(more[2]), 12)
        self.assertEqual(free_paper(more, []), plain_free_paper(more, []))

    def test_against_a_plain_reading(self):
        met = {"quarrel": 0, "empty": 0, "lines": 0}
        for number, book in enumerate(some_books(180, most=5, most_places=3, most_rules=6, seed=11)):
            if book[1] == 3 and len(book[0]) > 3:
                continue
            for which in (book, ended(book)):
                for sort in some_sorts(book[0], number):
                    paper = plain_free_paper(which, sort)
                    if paper is None:
                        self.assert_refused(Quarrel, plain_quarrel(which, sort), free_paper, which, sort)
                        met["quarrel"] += 1
                    else:
                        self.assertIsNone(plain_quarrel(which, sort))
                        self.assertEqual(free_paper(which, sort), paper)
                        self.assertIs(shows_free(which, sort, paper), True)
                        self.assertIs(shows_free(which, sort, paper[:-1]), paper == [])
                        met["lines" if paper else "empty"] += 1
        self.assertGreater(min(met.values()), 30, met)

    def test_anything_as_a_paper(self):
        for thing in ANYTHING:
            self.assertIs(shows_free(BOOK, [], thing), False)
            self.assertIs(shows_free((WEB, 2, BOOK[2][:2]), [], thing), False)
            self.assertIs(shows_free((WEB, 2, []), [["a", "b"]], thing), thing == [])
        self.assertIs(shows_free((WEB, 2, []), [["a", "b"]], [[]]), False)

    def test_spoiled_papers(self):
        for thing in spoiled(PAPER):
            self.assertIs(shows_free(BOOK, [], thing), False)
        for other in ([PAPER[0]] + PAPER, PAPER[::-1], [PAPER[0], PAPER[2], PAPER[1], PAPER[3]], tuple(PAPER)):
            self.assertIs(shows_free(BOOK, [], other), False)
        for number, (one, other, call, by) in enumerate(PAPER):
            lines = [(other, one, call, by), (one, other, list(call), by), [one, other, call, by], (one, other, call)]
            lines += [(one, other, call, name) for name, _ in BOOK[2] if name != by]
            for line in lines:
                self.assertIs(shows_free(BOOK, [], PAPER[:number] + [line] + PAPER[number + 1:]), False)

    def test_the_askers_own(self):
        book = copy.deepcopy(BOOK)
        for sort in ([], [["a"], ["b"]]):
            self.assert_untouched(free_paper, book, sort)
            self.assert_untouched(shows_free, book, sort, copy.deepcopy(PAPER))

    def test_a_book_changed_between_two_askings(self):
        book, sort = copy.deepcopy(BOOK), []
        self.assertEqual(free_paper(book, sort), PAPER)
        book[0][3][1].pop()
        self.assertEqual(free_paper(book, sort), PAPER[:1])
        self.assertIs(shows_free(book, sort, PAPER), False)
        self.assertIs(shows_free(book, sort, PAPER[:1]), True)
        sort.append(["b", "a"])
        self.assert_refused(Quarrel, ((("a", "b"), ("a", "b")), ("left", "right")), free_paper, book, sort)
        book[2].pop(0)
        self.assertEqual(free_paper(book, []), [])


if __name__ == "__main__":
    unittest.main()
