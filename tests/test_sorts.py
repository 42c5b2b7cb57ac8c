"""[14], [15]: sorts, kinds to come, arms within arms, and meets."""

import copy
import itertools
import unittest

from bestcalls.errors import NoKind
from bestcalls.sorts import is_sort, is_to_come, meets, within
from helper import (
    ANYTHING, DIAMOND, Refusals, loose_web, plain_above, plain_arm_stands, plain_meets, plain_to_come, some_sorts,
    some_webs, spoiled)


def plain_sort(web, thing):
    """A sort as the document says it."""
    if type(thing) is not list or len(thing) > 2 or not all(type(bundle) is list for bundle in thing):
        return False
    names = [name for bundle in thing for name in bundle]
    if not all(type(name) is str and name in dict(web) for name in names):
        return False
    return all(len(bundle) <= 5 and len(set(bundle)) == len(bundle) for bundle in thing)


class TestSorts(unittest.TestCase, Refusals):

    def test_sorts(self):
        web = loose_web(10)
        for thing in ([], [[]], [[], []], [["a"]], [list("edcba")], [list("abcde"), list("fghij")],
                      [list("abcde"), list("abcde")]):
            self.assertIs(is_sort(web, thing), True, thing)
        wrong = [[[], [], []], [list("abcdef")], [["a", "a"]], [["x"]], [("a", "b")], (["a"],), [["a"], ("b",)], ["a"],
                 [["a"], ["b"], ["c"]], [[None]], [[["a"]]], [[("a",)]], [[{}]], [{}], [{"a": 1}], {}, (), None, "ab"]
        for thing in wrong:
            self.assertIs(is_sort(web, thing), False, thing)

    def test_anything_as_a_sort(self):
        web = loose_web(3)
        for thing in list(spoiled([["a", "c"], ["b"]])) + ANYTHING:
            self.assertIs(is_sort(web, thing), plain_sort(web, thing), thing)

    def test_kinds_to_come(self):
        sort = [["f", "b", "c", "a"], ["d", "b"]]
        for thing in (("b", "c"), ("b", "c", "f"), ("a", "f"), ("b", "d"), ("c", "f")):
            self.assertIs(is_to_come(DIAMOND, sort, thing), True, thing)
        wrong = [("c", "b"), ("a", "b"), ("b", "b"), ("b",), (), ("d", "f"), ("c", "d"), ("b", "c", "d"), ("a", "b", "f"),
                 ["b", "c"], ("b", "x"), ("b", None), ("b", ["c"]), ("b", ("c",)), ("b", {}), "bc", "b", None,
                 ("b", "e"), ("f", "b"), ("b", "f", "c")]
        for thing in wrong:
            self.assertIs(is_to_come(DIAMOND, sort, thing), False, thing)
        for thing in (("b", "c"), ("a", "f")):
            self.assertIs(is_to_come(DIAMOND, [], thing), False)
            self.assertIs(is_to_come(DIAMOND, [[]], thing), False)

    def test_kinds_to_come_against_a_plain_reading(self):
        for number, web in enumerate(some_webs(30, 5)):
            names = [name for name, _ in web]
            for sort in some_sorts(web, number):
                right = plain_to_come(web, sort)
                for size in range(5):
                    for thing in itertools.product(names, repeat=size):
                        self.assertIs(is_to_come(web, sort, thing), thing in right)

    def test_two_bundles_of_five(self):
        web = loose_web(10)
        sort = [list("abcde"), list("fghij")]
        self.assertEqual(len([thing for size in range(11) for thing in itertools.combinations("abcdefghij", size)
                              if is_to_come(web, sort, thing)]), 52)
        self.assertIs(is_to_come(web, sort, tuple("abcde")), True)
        self.assertIs(is_to_come(web, sort, ("e", "f")), False)

    def test_anything_as_a_kind_to_come(self):
        sort = [["a", "b", "c", "f"]]
        right = plain_to_come(DIAMOND, sort)
        for thing in list(spoiled(("b", "c", "f"))) + ANYTHING:
            self.assertIs(is_to_come(DIAMOND, sort, thing), thing in right, thing)


class TestWithinAndMeets(unittest.TestCase, Refusals):

    def test_within(self):
        self.assertIs(within(DIAMOND, "a", "e"), True)
        self.assertIs(within(DIAMOND, "e", "a"), False)
        self.assertIs(within(DIAMOND, ("b", "c"), "e"), True)
        self.assertIs(within(DIAMOND, "e", ("b", "d")), False)
        self.assertIs(within(DIAMOND, ("c",), "c"), True)
        self.assertIs(within(DIAMOND, "c", ("c",)), True)
        self.assertIs(within(DIAMOND, ("c", "b"), ("b", "c")), True)
        self.assertIs(within(DIAMOND, ("b", "a"), "b"), True)
        self.assertIs(within(DIAMOND, ("b", "f"), ("e", "c")), False)
        self.assertIs(within(DIAMOND, ("b", "f"), ("f", "d", "b")), True)

    def test_within_against_a_plain_reading(self):
        for web in some_webs(20, 4):
            names = [name for name, _ in web]
            arms = names + [arm for size in (1, 2, 3) for arm in itertools.permutations(names, size)]
            for one, other in itertools.product(arms, repeat=2):
                self.assertIs(within(web, one, other), set(plain_above(web, one)) <= set(plain_above(web, other)))

    def test_meets(self):
        self.assertEqual(meets(DIAMOND, [], "b", "c"), ["e"])
        self.assertEqual(meets(DIAMOND, [["c", "b"]], "b", "c"), [("b", "c")])
        self.assertEqual(meets(DIAMOND, [["d", "b"]], "c", "b"), [("b", "d")])
        self.assertEqual(meets(DIAMOND, [], "a", "e"), ["e"])
        self.assertEqual(meets(DIAMOND, [["a", "f"]], "a", "a"), ["a"])
        self.assertEqual(meets(DIAMOND, [], "a", "f"), [])
        self.assertEqual(meets(DIAMOND, [["e", "f"]], "a", "f"), [("e", "f")])
        self.assertEqual(meets(DIAMOND, [["e", "f"], ["c", "f"]], "a", "f"), [("c", "f")])

    def test_the_order_of_meets(self):
        web = [("a", []), ("z", []), ("y", ["z"]), ("b", ["a"]), ("d", ["a", "z"]), ("c", ["z", "a"]), ("x", ["a"])]
        self.assertEqual(meets(web, [["x", "b", "y"]], "a", "z"), ["d", "c", ("y", "b"), ("y", "x")])
        self.assertEqual(meets(web, [["x", "b", "y"], ["b", "z"]], "z", "a"), ["d", "c", ("z", "b"), ("y", "x")])
        self.assertEqual(meets(web, [["z", "a"]], "z", "a"), [("a", "z")])

    def test_meets_against_a_plain_reading(self):
        mixed = 0
        for number, web in enumerate(some_webs(140, 7, seed=9)):
            names = [name for name, _ in web]
            for sort in some_sorts(web, number):
                arms = names + plain_to_come(web, sort)
                for kind, other in itertools.product(names, repeat=2):
                    told = meets(web, sort, kind, other)
                    self.assertEqual(told, plain_meets(web, sort, kind, other))
                    mixed += len({isinstance(arm, tuple) for arm in told}) == 2
                    for arm in arms:
                        if plain_arm_stands(web, arm, kind) and plain_arm_stands(web, arm, other):
                            self.assertTrue(any(within(web, one, arm) for one in told))
        self.assertGreater(mixed, 3)

    def test_no_kind(self):
        self.assert_refused(NoKind, "x", within, DIAMOND, "x", "y")
        self.assert_refused(NoKind, "y", within, DIAMOND, "a", "y")
        self.assert_refused(NoKind, "y", within, DIAMOND, ("a", "y", "x"), "z")
        self.assert_refused(NoKind, "z", within, DIAMOND, ("a", "b"), ("b", "z"))
        self.assert_refused(NoKind, "x", meets, DIAMOND, [], "x", "y")
        self.assert_refused(NoKind, "y", meets, DIAMOND, [["a", "b"]], "a", "y")

    def test_the_askers_own(self):
        web, sort = copy.deepcopy(DIAMOND), [["b", "c", "f"], []]
        self.assert_untouched(is_sort, web, sort)
        self.assert_untouched(is_to_come, web, sort, ("b", "c"))
        self.assert_untouched(within, web, ("b", "c"), "e")
        self.assert_untouched(meets, web, sort, "b", "c")

    def test_changed_between_two_askings(self):
        web, sort = [("a", []), ("b", [])], [["a"]]
        self.assertEqual(meets(web, sort, "a", "b"), [])
        self.assertIs(is_to_come(web, sort, ("a", "b")), False)
        sort[0].append("b")
        self.assertEqual(meets(web, sort, "a", "b"), [("a", "b")])
        self.assertIs(is_to_come(web, sort, ("a", "b")), True)
        web[1][1].append("a")
        self.assertEqual(meets(web, sort, "a", "b"), ["b"])
        self.assertIs(is_to_come(web, sort, ("a", "b")), False)
        self.assertIs(within(web, "a", "b"), True)


if __name__ == "__main__":
    unittest.main()
