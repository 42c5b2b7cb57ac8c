"""[2], [5], [6]: figures, names, webs, above and beneath."""

import copy
import unittest

from bestcalls.errors import NoKind, NoWeb
from bestcalls.webs import above, beneath, is_figure, is_name, is_web, is_whole, stands, web_of
from helper import ANYTHING, DIAMOND, Refusals, loose_web, plain_above, plain_stands, some_webs, spoiled


class TestNumbersAndNames(unittest.TestCase):

    def test_whole(self):
        for thing in (0, 1, -1, 10 ** 30, 10 ** 99, -(10 ** 99)):
            self.assertIs(is_whole(thing), True)
        for thing in (True, False, None, "", "1", [], [1], (1,), {}, {1: 2}):
            self.assertIs(is_whole(thing), False)

    def test_figure(self):
        for thing in (0, 7, -7, 10 ** 30 - 1, -(10 ** 30) + 1):
            self.assertIs(is_figure(thing), True)
        for thing in (10 ** 30, -(10 ** 30), 10 ** 30 + 1, 10 ** 99, -(10 ** 99), True, False, None, "1", [1], {}):
            self.assertIs(is_figure(thing), False)

    def test_name(self):
        for thing in ("a", "z", "abcdefgh", "zzzzzzzz", "az"):
            self.assertIs(is_name(thing), True)
        wrong = ["", "abcdefghi", "A", "Z", "aB", "a b", " a", "a ", "a1", "a_", "a\n", "\ta", "`", "{", "a" * 2000,
                 "\u00e9", "\u03b1", None, True, 1, ["a"], ("a",), {"a": 1}]
        for thing in wrong:
            self.assertIs(is_name(thing), False, thing)

    def test_anything(self):
        for thing in ANYTHING:
            for asked in (is_whole, is_figure, is_name, is_web):
                self.assertIn(asked(thing), (True, False))


def plain_wrong(thing):
    """Where the thing is no web: None as a text, or the number of the first wrong one; else -1."""
    if type(thing) is not list or thing == []:
        return "None"
    for number, entry in enumerate(thing):
        if number == 10 or type(entry) is not tuple or len(entry) != 2 or not is_name(entry[0]):
            return number
        ahead = [other[0] for other in thing[:number]]
        if entry[0] in ahead or type(entry[1]) is not list or len(entry[1]) > 4:
            return number
        for place, elder in enumerate(entry[1]):
            if type(elder) is not str or elder not in ahead or elder in entry[1][:place]:
                return number
    return -1


class TestWebs(unittest.TestCase, Refusals):

    def test_webs(self):
        webs = [[("a", [])], DIAMOND, loose_web(10), [("abcdefgh", [])],
                loose_web(4) + [("z", ["d", "b", "a", "c"])]]
        for web in webs + some_webs(60):
            self.assertIs(is_web(web), True)
            self.assertEqual(web_of(web), web)

    def test_no_list_or_an_empty_one(self):
        for thing in (None, True, 0, "a", "", (), [], {}, (("a", []),), {"a": []}):
            self.assertIs(is_web(thing), False)
            self.assert_refused(NoWeb, None, web_of, thing)

    def test_the_first_wrong_thing(self):
        cases = [
            ([None], 0), ([("a",)], 0), ([("a", [], [])], 0), ([["a", []]], 0), ([("a", ())], 0), ([("a", None)], 0),
            ([("a", {})], 0), ([("a", "")], 0), ([("", [])], 0), ([("abcdefghi", [])], 0), ([("A", [])], 0),
            ([(1, [])], 0), ([(["a"], [])], 0), ([({}, [])], 0), ([("a", ["a"])], 0), ([("a", ["b"]), ("b", [])], 0),
            ([("a", []), ("a", [])], 1), ([("a", []), ("b", ["a", "a"])], 1), ([("a", []), ("b", ["c"])], 1),
            ([("a", []), ("b", [["a"]])], 1), ([("a", []), ("b", [("a",)])], 1), ([("a", []), ("b", [{}])], 1),
            ([("a", []), ("b", [None])], 1), ([("a", []), ("b", "a")], 1), ([("a", []), ("b", ("a",))], 1),
            ([("a", []), ("b", ["a"]), None, 7], 2),
            (loose_web(5) + [("z", ["a", "b", "c", "d", "e"])], 5),
            (loose_web(11), 10), (loose_web(12), 10), (loose_web(10) + [None], 10), (loose_web(10) + [("a", [])], 10),
            (loose_web(3) + [("a", [])] + loose_web(9), 3),
        ]
        for thing, at in cases:
            self.assertIs(is_web(thing), False, thing)
            self.assert_refused(NoWeb, at, web_of, thing)

    def test_spoiled_webs(self):
        for web in ([("a", []), ("b", ["a"])], [("a", []), ("b", []), ("c", ["b", "a"])]):
            for thing in spoiled(web):
                at = plain_wrong(thing)
                self.assertIs(is_web(thing), at == -1, thing)
                if at == -1:
                    self.assertEqual(web_of(thing), thing)
                else:
                    self.assert_refused(NoWeb, None if at == "None" else at, web_of, thing)

    def test_lists_are_its_own(self):
        handed = copy.deepcopy(DIAMOND)
        told = self.assert_untouched(web_of, handed)
        self.assertEqual(told, DIAMOND)
        web = web_of(handed)
        handed[4][1].append("c")
        handed.pop()
        self.assertEqual(web, DIAMOND)


class TestStanding(unittest.TestCase, Refusals):

    def test_diamond(self):
        self.assertEqual(above(DIAMOND, "a"), ["a"])
        self.assertEqual(above(DIAMOND, "e"), ["a", "b", "c", "d", "e"])
        self.assertEqual(above(DIAMOND, "d"), ["a", "c", "d"])
        self.assertEqual(beneath(DIAMOND, "a"), ["a", "b", "c", "d", "e"])
        self.assertEqual(beneath(DIAMOND, "c"), ["c", "d", "e"])
        self.assertEqual(beneath(DIAMOND, "f"), ["f"])
        self.assertIs(stands(DIAMOND, "e", "a"), True)
        self.assertIs(stands(DIAMOND, "a", "e"), False)
        self.assertIs(stands(DIAMOND, "b", "c"), False)
        self.assertIs(stands(DIAMOND, "f", "f"), True)

    def test_arms(self):
        self.assertEqual(above(DIAMOND, ("e",)), above(DIAMOND, "e"))
        self.assertEqual(above(DIAMOND, ("f", "b")), ["a", "b", "f"])
        self.assertEqual(above(DIAMOND, ("b", "f")), ["a", "b", "f"])
        self.assertEqual(above(DIAMOND, ("d", "b", "a")), ["a", "b", "c", "d"])

    def test_against_a_plain_reading(self):
        for web in some_webs(60):
            names = [name for name, _ in web]
            for kind in names:
                self.assertEqual(above(web, kind), plain_above(web, kind))
                self.assertEqual(beneath(web, kind), [low for low in names if plain_stands(web, low, kind)])
                for other in names:
                    self.assertIs(stands(web, kind, other), plain_stands(web, kind, other))
                    if kind != other:
                        self.assertEqual(above(web, (kind, other)), plain_above(web, (kind, other)))

    def test_no_kind(self):
        self.assert_refused(NoKind, "x", above, DIAMOND, "x")
        self.assert_refused(NoKind, "x", above, DIAMOND, ("x",))
        self.assert_refused(NoKind, "y", above, DIAMOND, ("a", "y", "x"))
        self.assert_refused(NoKind, "x", beneath, DIAMOND, "x")
        self.assert_refused(NoKind, "x", stands, DIAMOND, "x", "y")
        self.assert_refused(NoKind, "y", stands, DIAMOND, "a", "y")
        self.assert_refused(NoKind, "x", stands, DIAMOND, "x", "a")

    def test_the_askers_own(self):
        web = copy.deepcopy(DIAMOND)
        self.assert_untouched(above, web, ("b", "f"))
        self.assert_untouched(beneath, web, "c")
        self.assert_untouched(stands, web, "e", "a")

    def test_a_web_changed_between_two_askings(self):
        web = [("a", []), ("b", [])]
        self.assertEqual(above(web, "b"), ["b"])
        web[1][1].append("a")
        self.assertEqual(above(web, "b"), ["a", "b"])
        self.assertEqual(beneath(web, "a"), ["a", "b"])
        self.assertIs(stands(web, "b", "a"), True)

    def test_somewhat_beyond_the_limits(self):
        web = loose_web(12) + [("longlongname", ["a", "b", "c", "d", "e"])]
        self.assertEqual(above(web, "longlongname"), ["a", "b", "c", "d", "e", "longlongname"])


if __name__ == "__main__":
    unittest.main()
