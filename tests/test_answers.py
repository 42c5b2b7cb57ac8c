"""[10]: fitting and nearest rules, and the answer."""

import copy
import itertools
import unittest

from bestcalls.answers import answer_of, fitting, nearest
from bestcalls.errors import NoCall, NoKind
from helper import (
    DIAMOND, Refusals, kind_names, loose_web, plain_answer, plain_fitting, plain_nearest_of, some_books, some_calls)

BOOK = (DIAMOND, 2, [
    ("far", ("a", "a")), ("left", ("b", "a")), ("right", ("a", "d")), ("alone", ("f", "f")), ("low", ("e", "c"))])


class TestAnswers(unittest.TestCase, Refusals):

    def test_none_one_and_several(self):
        self.assertEqual(answer_of(BOOK, ("a", "f")), ("none",))
        self.assertEqual(fitting(BOOK, ("a", "f")), [])
        self.assertEqual(nearest(BOOK, ("a", "f")), [])
        self.assertEqual(answer_of(BOOK, ("a", "a")), ("rule", "far"))
        self.assertEqual(answer_of(BOOK, ("b", "c")), ("rule", "left"))
        self.assertEqual(fitting(BOOK, ("b", "c")), ["far", "left"])
        self.assertEqual(nearest(BOOK, ("b", "c")), ["left"])
        self.assertEqual(answer_of(BOOK, ("e", "e")), ("quarrel", ("right", "low")))
        self.assertEqual(fitting(BOOK, ("e", "e")), ["far", "left", "right", "low"])
        self.assertEqual(nearest(BOOK, ("e", "e")), ["right", "low"])
        self.assertEqual(answer_of(BOOK, ("b", "e")), ("quarrel", ("left", "right")))

    def test_the_books_order(self):
        web, places, rules = BOOK
        turned = (web, places, rules[::-1])
        self.assertEqual(fitting(turned, ("e", "e")), ["low", "right", "left", "far"])
        self.assertEqual(answer_of(turned, ("e", "e")), ("quarrel", ("low", "right")))

    def test_arms(self):
        self.assertEqual(answer_of(BOOK, (("a", "f"), ("f", "a"))), ("quarrel", ("far", "alone")))
        self.assertEqual(answer_of(BOOK, (("f",), ("f",))), ("rule", "alone"))
        self.assertEqual(answer_of(BOOK, (("d", "b"), "c")), ("rule", "left"))
        self.assertEqual(answer_of(BOOK, (("b", "f", "e"), ("d", "f"))), ("quarrel", ("right", "alone", "low")))

    def test_books_without_rules_and_with_twelve(self):
        empty = (DIAMOND, 1, [])
        self.assertEqual((fitting(empty, ("a",)), nearest(empty, ("a",)), answer_of(empty, ("a",))), ([], [], ("none",)))
        names = kind_names(12, 2)
        web = loose_web(4)
        every = list(itertools.product("abcd", repeat=2))[:12]
        twelve = (web, 2, list(zip(names, every)))
        self.assertEqual(answer_of(twelve, (("a", "b", "c"), ("d", "c", "b", "a"))), ("quarrel", tuple(names)))
        for name, call in zip(names, every):
            self.assertEqual(answer_of(twelve, call), ("rule", name))
        self.assertEqual(answer_of(twelve, ("d", "a")), ("none",))

    def test_three_places(self):
        book = ([("a", []), ("b", ["a"])], 3, [("r", ("a", "a", "b")), ("s", ("a", "b", "a")), ("t", ("a", "b", "b"))])
        self.assertEqual(answer_of(book, ("b", "b", "b")), ("rule", "t"))
        self.assertEqual(answer_of(book, ("b", "a", "b")), ("rule", "r"))
        self.assertEqual(answer_of(book, ("b", "a", "a")), ("none",))

    def test_against_a_plain_reading(self):
        met = set()
        for number, book in enumerate(some_books(120, most_places=3, seed=3)):
            for call in some_calls(book, 12, number):
                fit = plain_fitting(book, call)
                self.assertEqual(fitting(book, call), fit)
                self.assertEqual(nearest(book, call), plain_nearest_of(book, fit))
                self.assertEqual(answer_of(book, call), plain_answer(book, call))
                met.add(answer_of(book, call)[0])
        self.assertEqual(met, {"none", "rule", "quarrel"})

    def test_no_call_and_then_no_kind(self):
        for asked in (fitting, nearest, answer_of):
            for call in ((), ("a",), ("x",), ("a", "a", "a"), ("x", "y", "z")):
                self.assert_refused(NoCall, None, asked, BOOK, call)
            self.assert_refused(NoKind, "x", asked, BOOK, ("a", "x"))
            self.assert_refused(NoKind, "x", asked, BOOK, ("x", "y"))
            self.assert_refused(NoKind, "y", asked, BOOK, (("a", "y", "x"), "z"))
            self.assert_refused(NoKind, "x", asked, (DIAMOND, 1, []), ("x",))

    def test_the_askers_own(self):
        for asked in (fitting, nearest, answer_of):
            for call in (("e", "e"), ("b", "c"), (("a", "f"), ("f",))):
                self.assert_untouched(asked, copy.deepcopy(BOOK), call)

    def test_a_book_changed_between_two_askings(self):
        book = ([("a", []), ("b", [])], 1, [("r", ("a",))])
        self.assertEqual(answer_of(book, ("b",)), ("none",))
        book[0][1][1].append("a")
        self.assertEqual(answer_of(book, ("b",)), ("rule", "r"))
        self.assertEqual(fitting(book, ("b",)), ["r"])
        book[2].append(("s", ("b",)))
        self.assertEqual(answer_of(book, ("b",)), ("rule", "s"))
        self.assertEqual(nearest(book, ("b",)), ["s"])
        book[0].append(("c", ["b"]))
        self.assertEqual(fitting(book, ("c",)), ["r", "s"])


if __name__ == "__main__":
    unittest.main()
