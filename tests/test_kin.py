"""[7]: roads and hedges."""

import copy
import itertools
import unittest

from bestcalls.errors import NoKind
from bestcalls.kin import hedge, is_hedge, is_road, road
from helper import ANYTHING, DIAMOND, Refusals, plain_stands, some_webs, spoiled


def plain_road(web, kind, other, thing):
    """A road as the document says it."""
    if type(thing) is not list or len(thing) == 0:
        return False
    if not all(type(name) is str and name in dict(web) for name in thing):
        return False
    steps = all(later in dict(web)[first] for first, later in zip(thing, thing[1:]))
    return thing[0] == kind and thing[-1] == other and steps


def plain_hedge(web, kind, other, thing):
    """A hedge as the document says it."""
    if type(thing) is not list or not all(type(name) is str and name in dict(web) for name in thing):
        return False
    unlike = all(thing.count(name) == 1 for name in thing)
    closed = all(set(dict(web)[name]) <= set(thing) for name in thing)
    return unlike and closed and kind in thing and other not in thing


class TestKin(unittest.TestCase, Refusals):

    def test_roads(self):
        self.assertEqual(road(DIAMOND, "a", "a"), ["a"])
        self.assertEqual(road(DIAMOND, "e", "c"), ["e", "d", "c"])
        self.assertIn(road(DIAMOND, "e", "a"), (["e", "b", "a"], ["e", "d", "c", "a"]))
        self.assertIsNone(road(DIAMOND, "a", "e"))
        self.assertIsNone(road(DIAMOND, "f", "a"))
        self.assertIs(is_road(DIAMOND, "e", "a", ["e", "b", "a"]), True)
        self.assertIs(is_road(DIAMOND, "e", "a", ["e", "d", "c", "a"]), True)
        wrong = [["e", "a"], ["e", "c", "a"], ["a", "b", "e"], ["e", "b"], ["b", "a"], ["e", "b", "b", "a"], [],
                 ("e", "b", "a"), ["e", "x", "a"], ["e", None, "a"], ["e", ["b"], "a"], ["e", {}, "a"], "eba", None]
        for thing in wrong:
            self.assertIs(is_road(DIAMOND, "e", "a", thing), False, thing)
        self.assertIs(is_road(DIAMOND, "a", "a", ["a"]), True)
        self.assertIs(is_road(DIAMOND, "a", "a", ["a", "a"]), False)
        self.assertIs(is_road(DIAMOND, "f", "a", ["f", "a"]), False)

    def test_hedges(self):
        self.assertIs(is_hedge(DIAMOND, "b", "c", ["b", "a"]), True)
        self.assertIs(is_hedge(DIAMOND, "b", "c", ["f", "b", "a"]), True)
        self.assertIs(is_hedge(DIAMOND, "b", "e", ["d", "f", "b", "a", "c"]), True)
        wrong = [["b"], ["a"], ["a", "b", "b"], ["a", "b", "c"], ["a", "b", "d"], [], ("a", "b"), ["a", "b", "x"],
                 ["a", "b", None], ["a", "b", ["f"]], ["a", "b", {}], ["a", "b", ("f",)], {"a": 1, "b": 2}, None, "ab"]
        for thing in wrong:
            self.assertIs(is_hedge(DIAMOND, "b", "c", thing), False, thing)
        self.assertIsNone(hedge(DIAMOND, "e", "a"))
        self.assertIsNone(hedge(DIAMOND, "a", "a"))
        self.assertIs(is_hedge(DIAMOND, "a", "a", ["a"]), False)
        self.assertIs(is_hedge(DIAMOND, "e", "a", ["a", "b", "c", "d", "e"]), False)

    def test_one_of_both_is_told_and_is_right(self):
        for web in some_webs(60):
            names = [name for name, _ in web]
            for kind, other in itertools.product(names, repeat=2):
                way, fence = road(web, kind, other), hedge(web, kind, other)
                if plain_stands(web, kind, other):
                    self.assertTrue(plain_road(web, kind, other, way))
                    self.assertIs(is_road(web, kind, other, way), True)
                    self.assertIsNone(fence)
                else:
                    self.assertTrue(plain_hedge(web, kind, other, fence))
                    self.assertIs(is_hedge(web, kind, other, fence), True)
                    self.assertIsNone(way)

    def test_all_short_lists_against_a_plain_reading(self):
        web = [("a", []), ("b", ["a"]), ("c", []), ("d", ["b", "c"])]
        for count in range(5):
            for names in itertools.product("abcdx", repeat=count):
                thing = list(names)
                for kind, other in (("d", "a"), ("d", "c"), ("b", "c"), ("b", "b"), ("a", "d")):
                    self.assertIs(is_road(web, kind, other, thing), plain_road(web, kind, other, thing))
                    self.assertIs(is_hedge(web, kind, other, thing), plain_hedge(web, kind, other, thing))

    def test_anything(self):
        for thing in ANYTHING + list(spoiled(["e", "b", "a"])):
            self.assertIs(is_road(DIAMOND, "e", "a", thing), plain_road(DIAMOND, "e", "a", thing))
        for thing in ANYTHING + list(spoiled(["a", "b"])):
            self.assertIs(is_hedge(DIAMOND, "b", "c", thing), plain_hedge(DIAMOND, "b", "c", thing))

    def test_no_kind(self):
        for asked in (road, hedge):
            self.assert_refused(NoKind, "x", asked, DIAMOND, "x", "y")
            self.assert_refused(NoKind, "y", asked, DIAMOND, "a", "y")
        for asked in (is_road, is_hedge):
            self.assert_refused(NoKind, "x", asked, DIAMOND, "x", "y", ["x", "y"])
            self.assert_refused(NoKind, "y", asked, DIAMOND, "a", "y", ["a", "y"])
            self.assert_refused(NoKind, "y", asked, DIAMOND, "a", "y", None)
            self.assertIs(asked(DIAMOND, "e", "f", ["e", "x", "f"]), False)

    def test_the_askers_own(self):
        web = copy.deepcopy(DIAMOND)
        self.assert_untouched(road, web, "e", "a")
        self.assert_untouched(hedge, web, "b", "c")
        self.assert_untouched(is_road, web, "e", "a", ["e", "b", "a"])
        self.assert_untouched(is_hedge, web, "b", "c", ["a", "b"])

    def test_a_web_changed_between_two_askings(self):
        web = [("a", []), ("b", [])]
        self.assertIsNone(road(web, "b", "a"))
        web[1][1].append("a")
        self.assertEqual(road(web, "b", "a"), ["b", "a"])
        self.assertIsNone(hedge(web, "b", "a"))


if __name__ == "__main__":
    unittest.main()
