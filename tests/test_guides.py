"""[27]: guides."""

import copy
import itertools
import time
import unittest

from bestcalls.errors import NoCall, NoKind
from bestcalls.guides import guide_of, guided, is_guide
from bestcalls.questions import depth_of, tree_of
from bestcalls.walks import walk_of
from helper import (
    ANYTHING, DIAMOND, Refusals, kind_names, loose_web, plain_answer, plain_depth, plain_led, plain_tells, some_books,
    spoiled)

NONE = ("none",)
BOOK = (DIAMOND, 2, [("r", ("a", "f")), ("s", ("b", "f")), ("t", ("c", "a"))])
CHAIN = [("a", []), ("b", ["a"]), ("c", ["b"])]
SMALL = ([("a", []), ("b", ["a"])], 2, [("r", ("b", "b"))])
GUIDE = ([0, 1], [
    [[("ask", "b", 1, 2), ("tell", 1), ("tell", 0)]],
    [[("tell", 0)], [("ask", "b", 1, 2), ("tell", 1), ("tell", 0)]]], [NONE, ("rule", "r")])


def orders(places):
    return [list(order) for order in itertools.permutations(range(places))]


def plain_is_guide(book, order, thing):
    """[27] clause by clause, of anything; the walk and the least depths are looked at elsewhere."""
    walk = walk_of(book, order)
    if type(thing) is not tuple or len(thing) != 3 or repr((thing[0], thing[2])) != repr((order, walk[-1])):
        return False
    if type(thing[1]) is not list or len(thing[1]) != len(order):
        return False
    for level, trees in zip(walk, thing[1]):
        if type(trees) is not list or len(trees) != len(level):
            return False
        for node, tree in zip(level, trees):
            if not plain_tells(book[0], node, tree) or plain_depth(tree) != depth_of(tree_of(book[0], node)):
                return False
    return True


def plain_guided(web, guide, call):
    """From the first level's tree on, by the kind at the order's next place, to the next level's tree."""
    number, total = 0, 0
    for step, place in enumerate(guide[0]):
        number, count = plain_led(web, guide[1][step][number], call[place])
        total += count
    return (guide[2][number], total)


class TestGuides(unittest.TestCase, Refusals):

    def test_guide_of(self):
        told = guide_of(SMALL, [0, 1])
        self.assertEqual((told[0], told[2]), (GUIDE[0], GUIDE[2]))
        self.assertEqual([len(level) for level in told[1]], [1, 2])
        self.assertEqual(told[1][1][0], [("tell", 0)])
        self.assertIs(is_guide(SMALL, [0, 1], told), True)
        self.assertIs(is_guide(SMALL, [0, 1], GUIDE), True)
        self.assertEqual(guide_of(book=SMALL, order=[1, 0])[0], [1, 0])

    def test_no_rules_and_one_kind(self):
        for places in (1, 2, 3):
            for order in orders(places):
                for web in (DIAMOND, loose_web(1)):
                    told = guide_of((web, places, []), order)
                    self.assertEqual(told, (order, [[[("tell", 0)]]] * places, [NONE]))
                    self.assertEqual(guided(web, told, ("a",) * places), (NONE, 0))

    def test_guided(self):
        web = SMALL[0]
        self.assertEqual(guided(web, GUIDE, ("a", "a")), (NONE, 1))
        self.assertEqual(guided(web, GUIDE, ("a", "b")), (NONE, 1))
        self.assertEqual(guided(web, GUIDE, ("b", "a")), (NONE, 2))
        self.assertEqual(guided(web=web, guide=GUIDE, call=("b", "b")), (("rule", "r"), 2))
        turned = ([1, 0],) + GUIDE[1:]
        self.assertEqual(guided(web, turned, ("a", "b")), (NONE, 2))
        self.assertEqual(guided(web, turned, ("b", "a")), (NONE, 1))

    def test_against_a_plain_reading(self):
        for book in some_books(120, most=5, most_places=3, most_rules=8, seed=91):
            if book[1] == 3 and len(book[0]) > 4:
                continue
            for order in orders(book[1]):
                guide = guide_of(book, order)
                self.assertTrue(plain_is_guide(book, order, guide), (book, order))
                self.assertIs(is_guide(book, order, guide), True)
                for call in itertools.product([name for name, _ in book[0]], repeat=book[1]):
                    told = guided(book[0], guide, call)
                    self.assertEqual(told, plain_guided(book[0], guide, call))
                    self.assertEqual(told[0], plain_answer(book, call))

    def test_ten_kinds_and_the_time(self):
        ahead = time.process_time()
        web = loose_web(10)
        book = (web, 2, [(name, kinds) for name, kinds in zip(kind_names(12, 2), itertools.product("bcd", "fghi"))])
        for order in orders(2):
            guide = guide_of(book, order)
            self.assertIs(is_guide(book, order, guide), True)
            for call in itertools.product([name for name, _ in web], repeat=2):
                self.assertEqual(guided(web, guide, call)[0], plain_answer(book, call))
        book = (web, 1, [(name, (kind,)) for name, kind in zip(kind_names(10, 2), kind_names(10))])
        self.assertIs(is_guide(book, [0], guide_of(book, [0])), True)
        self.assertLess(time.process_time() - ahead, 10)

    def test_guided_is_refused(self):
        for places in (1, 2, 3):
            for order in orders(places):
                guide = guide_of((DIAMOND, places, [("r", ("b",) * places)]), order)
                for count in (0, 1, 2, 3, 4):
                    if count != places:
                        self.assert_refused(NoCall, None, guided, DIAMOND, guide, ("a",) * count)
                        self.assert_refused(NoCall, None, guided, DIAMOND, guide, ("x",) * count)
                self.assert_refused(NoKind, "x", guided, DIAMOND, guide, ("a",) * (places - 1) + ("x",))
                # The first name as it is handed in, whatever the order.
                self.assert_refused(NoKind, "y", guided, DIAMOND, guide, ("y",) + ("x",) * (places - 1))
        self.assert_refused(NoKind, "x", guided, DIAMOND, guide_of(BOOK, [1, 0]), (("a", "x"), "y"))
        # Refused, too, where a tree would not ask.
        self.assert_refused(NoKind, "x", guided, DIAMOND, guide_of((DIAMOND, 1, []), [0]), ("x",))

    def test_other_guides(self):
        order, levels, answers = GUIDE
        first, (second, third) = levels[0][0], levels[1]
        swapped = [("ask", "b", 2, 1), ("tell", 0), ("tell", 1)]
        self.assertIs(is_guide(SMALL, [0, 1], (order, [[swapped], [second, third]], answers)), True)
        self.assertIs(is_guide(book=SMALL, order=[0, 1], thing=(order, [[first], [second, swapped]], answers)), True)
        # A tree that tells the labels, but is deeper than need be; one that has a way that no kind goes.
        deeper = [("ask", "a", 1, 2), ("ask", "b", 3, 4), ("tell", 7), ("tell", 1), ("tell", 0)]
        asked = [("ask", "a", 1, 2), ("tell", 0), ("tell", 0)]
        wrong = [
            (order, [[deeper], [second, third]], answers), (order, [[first], [asked, third]], answers),
            (order, [[first], [second, deeper]], answers), (order, [[first], [third, second]], answers),
            (order, [[first], [second, third, third]], answers), (order, [[first], [second]], answers),
            (order, [[first, first], [second, third]], answers), (order, [[first], [second, third], []], answers),
            (order, [[first]], answers), (order, [[], [second, third]], answers), (order, [], answers),
            (order, [[first], (second, third)], answers), (order, ([first], [second, third]), answers),
            (order, [[first], [second, tuple(third)]], answers),
            (order, [[first], [second, [("ask", "b", 1, 2), ("tell", True), ("tell", 0)]]], answers),
            (order, levels, answers[::-1]), (order, levels, answers + [("rule", "s")]), (order, levels, tuple(answers)),
            (order, levels, [NONE, ["rule", "r"]]), (order, levels), (order, levels, answers, []),
            [order, levels, answers], ([1, 0], levels, answers), ((0, 1), levels, answers), ([False, 1], levels, answers),
            ([0, True], levels, answers), ([0, 1, 2], levels, answers), ([0], levels, answers), (None, levels, answers)]
        for thing in wrong:
            self.assertIs(is_guide(SMALL, [0, 1], thing), False, thing)
            self.assertIs(plain_is_guide(SMALL, [0, 1], thing), False, thing)
        self.assertIs(is_guide(BOOK, [1, 0], guide_of(BOOK, [0, 1])), False)
        self.assertIs(is_guide(SMALL, [1, 0], GUIDE), False)
        self.assertIs(is_guide(SMALL, [1, 0], ([1, 0], levels, answers)), True)

    def test_a_tree_with_a_way_that_no_kind_goes(self):
        # Of the least depth all the same, so it is a guide's.
        book = (CHAIN, 1, [("r", ("a",)), ("s", ("b",)), ("t", ("c",))])
        tree = [("ask", "b", 1, 2), ("ask", "c", 3, 4), ("ask", "a", 5, 6), ("tell", 2), ("tell", 1), ("tell", 0), ("tell", 9)]
        answers = [("rule", name) for name in "rst"]
        self.assertIs(is_guide(book, [0], ([0], [[tree]], answers)), True)

    def test_anything(self):
        for thing in ANYTHING:
            self.assertIs(is_guide(SMALL, [0, 1], thing), False)
        met = {True: 0, False: 0}
        books = [(SMALL, [0, 1]), (BOOK, [1, 0]), ((CHAIN, 3, [("r", ("a", "b", "c"))]), [1, 2, 0]), ((DIAMOND, 1, []), [0])]
        for book, order in books:
            for thing in spoiled(guide_of(book, order)):
                told = is_guide(book, order, thing)
                self.assertIs(told, plain_is_guide(book, order, thing), thing)
                met[told] += 1
        self.assertGreater(min(met.values()), 10)

    def test_the_askers_own(self):
        book, order = copy.deepcopy(BOOK), [1, 0]
        guide = self.assert_untouched(guide_of, book, order)
        self.assert_untouched(guided, book[0], guide, ("a", "f"))
        self.assert_untouched(is_guide, book, order, guide)
        told = guide_of(book, order)
        told[0].append(2)
        self.assertEqual(order, [1, 0])
        told = guide_of((DIAMOND, 2, []), [0, 1])
        told[1][0][0].append(1)
        self.assertEqual(told[1][1], [[("tell", 0)]])

    def test_a_book_changed_between_two_askings(self):
        book = copy.deepcopy(SMALL)
        self.assertIs(is_guide(book, [0, 1], GUIDE), True)
        book[0][1][1].clear()
        self.assertIs(is_guide(book, [0, 1], GUIDE), True)
        book[2].append(("s", ("a", "b")))
        self.assertIs(is_guide(book, [0, 1], GUIDE), False)
        guide = guide_of(book, [0, 1])
        self.assertEqual(guided(book[0], guide, ("a", "b"))[0], ("rule", "s"))


if __name__ == "__main__":
    unittest.main()
