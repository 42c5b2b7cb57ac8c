"""[16], [17]: free of quarrels, or the least call that quarrels."""

import copy
import itertools
import unittest

from bestcalls.free import quarrel
from helper import DIAMOND, Refusals, kind_names, loose_web, plain_quarrel, some_books, some_sorts


class TestQuarrel(unittest.TestCase, Refusals):

    def test_free_and_not(self):
        web = [("a", []), ("b", [])]
        book = (web, 1, [("r", ("a",)), ("s", ("b",))])
        for sort in ([], [[]], [["a"], ["b"]], [["a"]]):
            self.assertIsNone(quarrel(book, sort))
        for sort in ([["a", "b"]], [["b", "a"]], [[], ["b", "a"]]):
            self.assertEqual(quarrel(book, sort), ((("a", "b"),), ("r", "s")))
        lower = (web + [("c", ["a", "b"])], 1, book[2])
        self.assertEqual(quarrel(lower, []), (("c",), ("r", "s")))
        self.assertEqual(quarrel(lower, [["a", "b"]]), ((("a", "b"),), ("r", "s")))
        ended = (lower[0], 1, book[2] + [("t", ("c",))])
        self.assertIsNone(quarrel(ended, []))
        self.assertIsNone(quarrel(ended, [["a", "c"]]))
        self.assertEqual(quarrel(ended, [["b", "a"]]), ((("a", "b"),), ("r", "s")))

    def test_few_rules(self):
        for sort in ([], [["b", "c", "f"]], [["b", "c"], ["a", "f"]]):
            self.assertIsNone(quarrel((DIAMOND, 2, []), sort))
            self.assertIsNone(quarrel((DIAMOND, 2, [("r", ("b", "c"))]), sort))
            self.assertIsNone(quarrel((DIAMOND, 2, [("r", ("b", "c")), ("s", ("a", "c"))]), sort))

    def test_names_in_the_books_order_and_all_of_them(self):
        web = loose_web(3) + [("d", ["c", "a", "b"])]
        rules = [("t", ("c",)), ("r", ("a",)), ("s", ("b",))]
        self.assertEqual(quarrel((web, 1, rules), []), (("d",), ("t", "r", "s")))
        self.assertEqual(quarrel((web, 1, rules), [["c", "b", "a"]]), ((("a", "b"),), ("r", "s")))
        self.assertEqual(quarrel((web, 1, rules), [["c", "b"], ["c", "a"]]), ((("a", "c"),), ("t", "r")))

    def test_fewest_kinds_above(self):
        web = [("a", []), ("b", []), ("c", ["a"]), ("d", ["c", "b"]), ("e", ["a", "b"])]
        self.assertEqual(quarrel((web, 1, [("r", ("a",)), ("s", ("b",))]), []), (("e",), ("r", "s")))

    def test_then_fewest_kinds_to_come(self):
        web = [("z", []), ("k", ["z"]), ("m", []), ("x", []), ("y", []), ("u", []), ("v", []), ("w", ["u", "v"])]
        rules = [("one", ("k", "x")), ("two", ("k", "y")), ("three", ("m", "u")), ("four", ("m", "v"))]
        self.assertEqual(quarrel((web, 2, rules), [["x", "y"]]), (("m", "w"), ("three", "four")))
        self.assertEqual(quarrel((web[:7], 2, rules), [["x", "y"]]), (("k", ("x", "y")), ("one", "two")))

    def test_then_the_first_by_its_arms(self):
        for low in (["c", "d"], ["d", "c"]):
            web = [("a", []), ("b", [])] + [(name, ["a", "b"]) for name in low]
            rules = [("r", ("b", "a")), ("s", ("a", "b"))]
            self.assertEqual(quarrel((web, 2, rules), []), ((low[0], low[0]), ("r", "s")))
            ended = rules + [("t", (low[0], low[0])), ("u", (low[1], low[1]))]
            self.assertEqual(quarrel((web, 2, ended), []), ((low[0], low[1]), ("r", "s")))
            ended.append(("v", (low[0], low[1])))
            self.assertEqual(quarrel((web, 2, ended), []), ((low[1], low[0]), ("r", "s")))
            ended.append(("w", (low[1], low[0])))
            self.assertIsNone(quarrel((web, 2, ended), []))

    def test_names_come_ahead_of_tuples(self):
        web = [("a", []), ("b", []), ("c", []), ("d", ["a", "b"])]
        rules = [("r", ("a", "c")), ("s", ("b", "c")), ("t", ("c", "a")), ("u", ("c", "b"))]
        told = quarrel((web, 2, rules), [["a", "b"]])
        self.assertEqual(told, (("c", ("a", "b")), ("t", "u")))

    def test_three_places(self):
        web = [("a", []), ("b", ["a"]), ("c", ["a"]), ("d", ["b", "c"])]
        rules = [("r", ("b", "a", "a")), ("s", ("a", "a", "c"))]
        self.assertEqual(quarrel((web, 3, rules), []), (("b", "a", "c"), ("r", "s")))
        self.assertIsNone(quarrel((web, 3, rules + [("t", ("b", "a", "c"))]), []))

    def test_twelve_rules(self):
        web = loose_web(5) + [(name, []) for name in "fghij"]
        rules = [(name, kinds) for name, kinds in zip(kind_names(12, 2), itertools.product("abc", "fghi"))]
        book = (web, 2, rules)
        self.assertIsNone(quarrel(book, []))
        two = [list("abcde"), list("fghij")]
        self.assertEqual(quarrel(book, two), plain_quarrel(book, two))
        self.assertEqual(quarrel(book, two), (("a", ("f", "g")), ("aa", "ab")))
        self.assertEqual(quarrel(book, [["c", "b"]]), ((("b", "c"), "f"), ("ae", "ai")))

    def test_against_a_plain_walk(self):
        met = {"free": 0, "names": 0, "to come": 0, "mixed": 0}
        for number, book in enumerate(some_books(240, most=5, most_places=2, most_rules=7, seed=6)):
            for sort in some_sorts(book[0], number):
                told = quarrel(book, sort)
                self.assertEqual(told, plain_quarrel(book, sort), (book, sort))
                if told is None:
                    met["free"] += 1
                else:
                    shapes = {isinstance(arm, tuple) for arm in told[0]}
                    met["mixed" if len(shapes) == 2 else "to come" if True in shapes else "names"] += 1
        self.assertGreater(min(met.values()), 10, met)

    def test_against_a_plain_walk_with_three_places(self):
        for number, book in enumerate(some_books(45, most=4, most_places=3, most_rules=9, seed=7)):
            for sort in some_sorts(book[0], number):
                self.assertEqual(quarrel(book, sort), plain_quarrel(book, sort), (book, sort))

    def test_against_a_plain_walk_with_ten_kinds(self):
        for number, book in enumerate(some_books(20, most=10, most_places=1, most_rules=10, seed=8)):
            for sort in some_sorts(book[0], number):
                self.assertEqual(quarrel(book, sort), plain_quarrel(book, sort), (book, sort))

    def test_the_askers_own(self):
        book = (copy.deepcopy(DIAMOND), 1, [("r", ("b",)), ("s", ("c",)), ("t", ("f",))])
        for sort in ([], [["b", "c"]], [["b", "f"], ["c", "f"]]):
            self.assert_untouched(quarrel, book, sort)

    def test_a_book_changed_between_two_askings(self):
        book, sort = ([("a", []), ("b", []), ("c", ["a"])], 1, [("r", ("a",)), ("s", ("b",))]), []
        self.assertIsNone(quarrel(book, sort))
        book[0][2][1].append("b")
        self.assertEqual(quarrel(book, sort), (("c",), ("r", "s")))
        book[2].append(("t", ("c",)))
        self.assertIsNone(quarrel(book, sort))
        sort.append(["a", "b"])
        self.assertEqual(quarrel(book, sort), ((("a", "b"),), ("r", "s")))
        book[2].pop(0)
        self.assertIsNone(quarrel(book, sort))

    def test_somewhat_beyond_the_limits(self):
        web = loose_web(7)
        rules = [(name, (name,)) for name in "gfedcba"]
        self.assertEqual(quarrel((web, 1, rules), [list("gfedcb"), [], ["a", "g"]]), ((("a", "g"),), ("g", "a")))


if __name__ == "__main__":
    unittest.main()
