"""[8], [9]: books, calls, fitting and nearer."""

import copy
import itertools
import unittest

from bestcalls.books import book_of, fits, is_book, nearer
from bestcalls.errors import NoBook, NoCall, NoKind
from bestcalls.webs import is_name, is_web
from helper import (
    ANYTHING, DIAMOND, Refusals, kind_names, loose_web, plain_fits, plain_nearer, some_books, some_webs, spoiled)


def rules_of(count, web, places):
    """As many rules as told, with unlike names and kinds."""
    every = itertools.product([name for name, _ in web], repeat=places)
    return [(name, kinds) for name, kinds in zip(kind_names(count, 2), every)]


def plain_wrong(web, places, rules):
    """Where these come to no book: None as a text, or the number of the first wrong rule; else -1."""
    if not is_web(web) or type(places) is not int or places not in (1, 2, 3) or type(rules) is not list:
        return "None"
    if len(web) ** places > 216:
        return "None"
    for number, rule in enumerate(rules):
        if number == 12 or type(rule) is not tuple or len(rule) != 2 or not is_name(rule[0]):
            return number
        if type(rule[1]) is not tuple or len(rule[1]) != places:
            return number
        if not all(type(name) is str and name in dict(web) for name in rule[1]):
            return number
        if any(rule[0] == other[0] or rule[1] == other[1] for other in rules[:number]):
            return number
    return -1


class TestBooks(unittest.TestCase, Refusals):

    def test_books(self):
        books = [
            ([("a", [])], 1, []), ([("a", [])], 3, [("a", ("a", "a", "a"))]), (DIAMOND, 3, [("abcdefgh", ("a", "f", "f"))]),
            (loose_web(6), 3, rules_of(12, loose_web(6), 3)), (loose_web(10), 2, rules_of(12, loose_web(10), 2)),
            (loose_web(10), 1, rules_of(10, loose_web(10), 1)),
        ]
        for book in books + some_books(60):
            self.assertIs(is_book(book), True, book)
            self.assertEqual(book_of(book[0], book[1], book[2]), book)

    def test_refused_at_none(self):
        web = [("a", [])]
        cases = [
            (None, 1, []), ([], 1, []), ((), 1, []), ([("a", ["b"])], 1, []), (loose_web(11), 1, []), ({}, 1, []),
            (web, 0, []), (web, 4, []), (web, -1, []), (web, True, []), (web, None, []), (web, "1", []), (web, [], []),
            (web, 10 ** 99, []), (web, 1, None), (web, 1, ()), (web, 1, {}), (web, 1, "a"), (web, 1, 0),
            (loose_web(7), 3, []), (loose_web(10), 3, []),
            (loose_web(7), 3, [None]), (web, 4, [None]), ([], 1, [None]),
        ]
        for web, places, rules in cases:
            self.assertIs(is_book((web, places, rules)), False)
            self.assert_refused(NoBook, None, book_of, web, places, rules)

    def test_refused_at_the_first_wrong_rule(self):
        right = ("r", ("a", "b"))
        cases = [
            ([None], 0), ([("r",)], 0), ([["r", ("a", "b")]], 0), ([("r", ("a", "b"), [])], 0), ([("r", ["a", "b"])], 0),
            ([("r", ("a",))], 0), ([("r", ("a", "b", "c"))], 0), ([("r", ())], 0), ([("r", "ab")], 0), ([("r", None)], 0),
            ([("", ("a", "b"))], 0), ([("abcdefghi", ("a", "b"))], 0), ([(1, ("a", "b"))], 0), ([([], ("a", "b"))], 0),
            ([("r", ("a", "x"))], 0), ([("r", ("a", None))], 0), ([("r", ("a", ["b"]))], 0), ([("r", ("a", ("b",)))], 0),
            ([("r", ("a", {}))], 0), ([right, right], 1), ([right, ("r", ("b", "a"))], 1), ([right, ("s", ("a", "b"))], 1),
            ([right, ("s", ("b", "a")), 7, 8], 2), ([right, ("s", ("a", "x")), ("r", ("a", "a"))], 1),
            (rules_of(13, DIAMOND, 2), 12), (rules_of(14, DIAMOND, 2), 12), (rules_of(12, DIAMOND, 2) + [None], 12),
            (rules_of(12, DIAMOND, 2) + [right], 12), (rules_of(3, DIAMOND, 2) + [None] + rules_of(13, DIAMOND, 2), 3),
        ]
        for rules, at in cases:
            self.assertIs(is_book((DIAMOND, 2, rules)), False, rules)
            self.assert_refused(NoBook, at, book_of, DIAMOND, 2, rules)

    def test_anything(self):
        for thing in ANYTHING:
            self.assertIs(is_book(thing), False)
        for thing in itertools.product(ANYTHING[:30], [1, True, None, []], ANYTHING[:30]):
            at = plain_wrong(*thing)
            self.assertIs(is_book(thing), at == -1)

    def test_spoiled_books(self):
        book = ([("a", []), ("b", ["a"])], 2, [("r", ("a", "a")), ("s", ("a", "b"))])
        for thing in spoiled(book):
            if type(thing) is not tuple or len(thing) != 3:
                self.assertIs(is_book(thing), False, thing)
                continue
            at = plain_wrong(*thing)
            self.assertIs(is_book(thing), at == -1, thing)
            if at == -1:
                self.assertEqual(book_of(*thing), thing)
            else:
                self.assert_refused(NoBook, None if at == "None" else at, book_of, *thing)

    def test_lists_are_its_own(self):
        handed = copy.deepcopy(DIAMOND), 1, [("r", ("a",)), ("s", ("f",))]
        kept = copy.deepcopy(handed)
        self.assert_untouched(book_of, *handed)
        book = book_of(*handed)
        handed[0][4][1].append("c")
        handed[0].pop()
        handed[2].pop()
        self.assertEqual(book, kept)


class TestFits(unittest.TestCase, Refusals):

    def test_fits(self):
        self.assertIs(fits(DIAMOND, ("a",), ("e",)), True)
        self.assertIs(fits(DIAMOND, ("e",), ("a",)), False)
        self.assertIs(fits(DIAMOND, ("a", "f"), ("e", "f")), True)
        self.assertIs(fits(DIAMOND, ("a", "f"), ("f", "e")), False)
        self.assertIs(fits(DIAMOND, ("a", "f"), ("e", "e")), False)
        self.assertIs(fits(DIAMOND, ("b", "f"), (("f", "b"), ("f",))), True)
        self.assertIs(fits(DIAMOND, ("d",), (("b", "c"),)), False)
        self.assertIs(fits(DIAMOND, ("a", "a", "c"), ("a", "b", ("f", "d"))), True)

    def test_nearer(self):
        self.assertIs(nearer(DIAMOND, ("e",), ("a",)), True)
        self.assertIs(nearer(DIAMOND, ("a",), ("e",)), False)
        self.assertIs(nearer(DIAMOND, ("a",), ("a",)), False)
        self.assertIs(nearer(DIAMOND, ("e", "f"), ("a", "f")), True)
        self.assertIs(nearer(DIAMOND, ("e", "a"), ("a", "e")), False)
        self.assertIs(nearer(DIAMOND, ("b",), ("c",)), False)

    def test_against_a_plain_reading(self):
        for web in some_webs(24, 4):
            names = [name for name, _ in web]
            for places in (1, 2):
                every = list(itertools.product(names, repeat=places))
                for one, other in itertools.product(every, repeat=2):
                    self.assertIs(nearer(web, one, other), plain_nearer(web, one, other))
                    self.assertIs(fits(web, one, other), plain_fits(web, one, other))
            arms = names + list(itertools.permutations(names, 2)) + list(itertools.permutations(names, 3))
            for kind, arm in itertools.product(names, arms):
                self.assertIs(fits(web, (kind,), (arm,)), plain_fits(web, (kind,), (arm,)))

    def test_no_call_and_then_no_kind(self):
        self.assert_refused(NoCall, None, fits, DIAMOND, ("a",), ("a", "a"))
        self.assert_refused(NoCall, None, fits, DIAMOND, ("a", "a"), ("a",))
        self.assert_refused(NoCall, None, fits, DIAMOND, ("a",), ())
        self.assert_refused(NoCall, None, fits, DIAMOND, ("x",), ("y", "z"))
        self.assert_refused(NoKind, "x", fits, DIAMOND, ("a", "x"), ("y", "a"))
        self.assert_refused(NoKind, "y", fits, DIAMOND, ("a", "a"), ("a", ("b", "y", "z")))
        self.assert_refused(NoKind, "y", fits, DIAMOND, ("f", "a"), ("a", "y"))
        self.assert_refused(NoKind, "x", nearer, DIAMOND, ("a", "x"), ("y", "a"))
        self.assert_refused(NoKind, "y", nearer, DIAMOND, ("a", "b"), ("y", "x"))
        self.assert_refused(NoKind, "y", nearer, DIAMOND, ("f", "a"), ("a", "y"))

    def test_one_to_three_places(self):
        for places in (1, 2, 3):
            self.assertIs(fits(DIAMOND, ("a",) * places, ("e",) * places), True)
            self.assertIs(nearer(DIAMOND, ("e",) * places, ("a",) * places), True)

    def test_other_numbers_are_never_nearer(self):
        self.assertIs(nearer(DIAMOND, ("e",), ("a", "a")), False)
        self.assertIs(nearer(DIAMOND, ("e", "e"), ("a",)), False)

    def test_untouched(self):
        web = copy.deepcopy(DIAMOND)
        self.assert_untouched(fits, web, ("a", "f"), ("e", ("f", "b")))
        self.assert_untouched(nearer, web, ("e", "f"), ("a", "f"))

    def test_a_web_changed_between_two_askings(self):
        web = [("a", []), ("b", [])]
        self.assertIs(fits(web, ("a",), ("b",)), False)
        self.assertIs(nearer(web, ("b",), ("a",)), False)
        web[1][1].append("a")
        self.assertIs(fits(web, ("a",), ("b",)), True)
        self.assertIs(nearer(web, ("b",), ("a",)), True)


if __name__ == "__main__":
    unittest.main()
