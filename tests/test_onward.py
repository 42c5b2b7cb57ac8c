"""[12], [13]: onward from a rule, chains and layers."""

import copy
import unittest

from bestcalls.errors import NoCall, NoFit, NoKind, NoRule
from bestcalls.onward import chain, layers, onward
from helper import (
    DIAMOND, Refusals, plain_answer, plain_answer_of, plain_fitting, plain_nearer, some_books, some_calls)

# From the nearest rule on: low, then mid, then a quarrel of left and right, both nearer than far.
BOOK = (DIAMOND, 2, [
    ("far", ("a", "a")), ("left", ("b", "a")), ("low", ("e", "e")), ("right", ("a", "d")), ("mid", ("b", "d")),
    ("alone", ("f", "f"))])


def plain_farther(book, call, name):
    """The names of the rules that fit and than which the named one is nearer."""
    kinds = dict(book[2])
    return [other for other in plain_fitting(book, call) if plain_nearer(book[0], kinds[name], kinds[other])]


def plain_layers(book, call):
    """A rule is as many layers behind the first as the longest row of ever nearer rules that fit."""
    kinds = dict(book[2])
    fit = plain_fitting(book, call)

    def depth(name):
        return max([1 + depth(other) for other in fit if plain_nearer(book[0], kinds[other], kinds[name])], default=0)

    depths = [depth(name) for name in fit]
    return [[name for name in fit if depth(name) == level] for level in range(max(depths, default=-1) + 1)]


class TestOnward(unittest.TestCase, Refusals):

    def test_onward(self):
        call = ("e", "e")
        self.assertEqual(onward(BOOK, call, "low"), ("rule", "mid"))
        self.assertEqual(onward(BOOK, call, "mid"), ("quarrel", ("left", "right")))
        self.assertEqual(onward(BOOK, call, "left"), ("rule", "far"))
        self.assertEqual(onward(BOOK, call, "right"), ("rule", "far"))
        self.assertEqual(onward(BOOK, call, "far"), ("none",))
        self.assertEqual(onward(BOOK, ("f", "f"), "alone"), ("none",))
        self.assertEqual(onward(BOOK, (("b", "f"), ("f", "d")), "alone"), ("none",))
        self.assertEqual(onward(BOOK, (("b", "f"), ("f", "d")), "mid"), ("quarrel", ("left", "right")))

    def test_refusals_in_order(self):
        self.assert_refused(NoRule, "nope", onward, BOOK, ("e", "e"), "nope")
        self.assert_refused(NoRule, "nope", onward, BOOK, ("e",), "nope")
        self.assert_refused(NoRule, "nope", onward, BOOK, ("x", "e"), "nope")
        self.assert_refused(NoRule, "a", onward, (DIAMOND, 1, []), (), "a")
        self.assert_refused(NoCall, None, onward, BOOK, ("x",), "alone")
        self.assert_refused(NoCall, None, onward, BOOK, ("a", "a", "a"), "far")
        self.assert_refused(NoKind, "y", onward, BOOK, ("a", ("b", "y", "x")), "alone")
        self.assert_refused(NoFit, "alone", onward, BOOK, ("e", "e"), "alone")
        self.assert_refused(NoFit, "low", onward, BOOK, ("e", "d"), "low")

    def test_chain(self):
        self.assertEqual(chain(BOOK, ("e", "e")), (["low", "mid"], ("quarrel", ("left", "right"))))
        self.assertEqual(chain(BOOK, ("b", "a")), (["left", "far"], ("none",)))
        self.assertEqual(chain(BOOK, ("a", "f")), ([], ("none",)))
        self.assertEqual(chain(BOOK, (("a", "f"), ("f", "a"))), ([], ("quarrel", ("far", "alone"))))
        self.assertEqual(chain((DIAMOND, 1, []), ("a",)), ([], ("none",)))

    def test_a_chain_of_twelve(self):
        web = [("a", []), ("b", ["a"]), ("c", ["b"]), ("d", ["c"]), ("e", ["d"]), ("f", ["e"])]
        steps = [("a", "a"), ("a", "b"), ("b", "b"), ("b", "c"), ("c", "c"), ("c", "d"), ("d", "d"), ("d", "e"),
                 ("e", "e"), ("e", "f"), ("f", "f")]
        rules = [(name, kinds) for name, kinds in zip("ghijklmnopq", steps)]
        self.assertEqual(chain((web, 2, rules), ("f", "f")), (list("qponmlkjihg"), ("none",)))
        self.assertEqual(layers((web, 2, rules), ("f", "f")), [[name] for name in "qponmlkjihg"])
        twelve = (web, 2, rules + [("z", ("f", "a"))])
        self.assertEqual(onward(twelve, ("f", "f"), "q"), ("quarrel", ("p", "z")))
        self.assertEqual(layers(twelve, ("f", "f"))[1], ["p", "z"])

    def test_layers(self):
        self.assertEqual(layers(BOOK, ("e", "e")), [["low"], ["mid"], ["left", "right"], ["far"]])
        self.assertEqual(layers(BOOK, ("a", "f")), [])
        self.assertEqual(layers((DIAMOND, 1, []), ("a",)), [])
        self.assertEqual(layers(BOOK, (("b", "f"), ("f", "a"))), [["left", "alone"], ["far"]])
        uneven = ([("a", []), ("b", ["a"]), ("c", ["b"]), ("d", []), ("e", ["c", "d"])], 1, [
            ("top", ("a",)), ("side", ("d",)), ("mid", ("b",)), ("deep", ("c",))])
        self.assertEqual(layers(uneven, ("e",)), [["side", "deep"], ["mid"], ["top"]])

    def test_against_a_plain_reading(self):
        ends = set()
        for number, book in enumerate(some_books(150, most_places=3, most_rules=10, seed=5)):
            for call in some_calls(book, 8, number):
                fit = plain_fitting(book, call)
                for name, _ in book[2]:
                    if name in fit:
                        expected = plain_answer_of(book, plain_farther(book, call, name))
                        self.assertEqual(onward(book, call, name), expected)
                    else:
                        self.assert_refused(NoFit, name, onward, book, call, name)
                self.assertEqual(layers(book, call), plain_layers(book, call))
                names, end = chain(book, call)
                answer = plain_answer(book, call)
                for name in names:
                    self.assertEqual(answer, ("rule", name))
                    answer = plain_answer_of(book, plain_farther(book, call, name))
                self.assertEqual(answer, end)
                self.assertEqual(len(set(names)), len(names))
                ends.add((min(len(names), 2), end[0]))
        self.assertEqual(ends, {(0, "none"), (1, "none"), (2, "none"), (0, "quarrel"), (1, "quarrel"), (2, "quarrel")})

    def test_no_call_and_then_no_kind(self):
        for asked in (chain, layers):
            self.assert_refused(NoCall, None, asked, BOOK, ("x",))
            self.assert_refused(NoCall, None, asked, BOOK, ("a", "a", "x"))
            self.assert_refused(NoKind, "x", asked, BOOK, ("a", ("b", "x", "y")))

    def test_the_askers_own(self):
        book = copy.deepcopy(BOOK)
        self.assert_untouched(onward, book, ("e", "e"), "mid")
        self.assert_untouched(chain, book, ("e", "e"))
        self.assert_untouched(layers, book, ("e", ("f", "d")))

    def test_a_book_changed_between_two_askings(self):
        book = ([("a", []), ("b", [])], 1, [("r", ("a",)), ("s", ("b",))])
        self.assertEqual(onward(book, ("b",), "s"), ("none",))
        self.assertEqual(chain(book, ("b",)), (["s"], ("none",)))
        self.assertEqual(layers(book, ("b",)), [["s"]])
        book[0][1][1].append("a")
        self.assertEqual(onward(book, ("b",), "s"), ("rule", "r"))
        self.assertEqual(chain(book, ("b",)), (["s", "r"], ("none",)))
        self.assertEqual(layers(book, ("b",)), [["s"], ["r"]])
        book[2].pop(0)
        self.assertEqual(chain(book, ("b",)), (["s"], ("none",)))
        self.assert_refused(NoRule, "r", onward, book, ("b",), "r")


if __name__ == "__main__":
    unittest.main()
