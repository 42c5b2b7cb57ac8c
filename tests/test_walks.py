"""[22], [23]: walks, and the best order."""

import copy
import itertools
import time
import unittest

from bestcalls.errors import NoCall, NoKind
from bestcalls.walks import best_order, is_walk, walk_of, walked
from helper import ANYTHING, DIAMOND, Refusals, kind_names, loose_web, plain_answer, some_books, spoiled

NONE = ("none",)
BOOK = (DIAMOND, 2, [("r", ("a", "f")), ("s", ("b", "f")), ("t", ("c", "a"))])
CHAIN = [("a", []), ("b", ["a"]), ("c", ["b"])]


def orders(places):
    return [list(order) for order in itertools.permutations(range(places))]


def plain_calls(book):
    return list(itertools.product([name for name, _ in book[0]], repeat=book[1]))


def plain_walked(web, walk, order, call):
    """From the first node, by the kinds at the places in this order."""
    names = [name for name, _ in web]
    number = 0
    for step, place in enumerate(order):
        number = walk[step][number][names.index(call[place])]
    return walk[len(order)][number]


def plain_answers(book):
    return {call: plain_answer(book, call) for call in plain_calls(book)}


def is_right(book, order, walk, answers):
    return all(plain_walked(book[0], walk, order, call) == answer for call, answer in answers.items())


def holds(book, order, walk):
    """All that [22] says of the book's walk, clause by clause, of lists of lists of whole numbers."""
    if len(walk) != book[1] + 1 or len(walk[0]) != 1:
        return False
    for level, behind in zip(walk, walk[1:]):
        come_to = [number for node in level for number in node]
        firsts = list(dict.fromkeys(come_to))
        if any(len(node) != len(book[0]) for node in level) or firsts != list(range(len(behind))):
            return False
    for level in walk:
        if any(one == other for one, other in itertools.combinations(level, 2)):
            return False
    return is_right(book, order, walk, plain_answers(book))


def needed(book, order):
    """For each level how many ways to it must come to unlike nodes, since some call goes on to unlike answers."""
    names = [name for name, _ in book[0]]
    answers = plain_answers(book)
    told = []
    for step in range(len(order) + 1):
        unlike = []
        for way in itertools.product(names, repeat=step):
            ends = []
            for rest in itertools.product(names, repeat=len(order) - step):
                at = dict(zip(order, way + rest))
                ends.append(answers[tuple(at[place] for place in range(len(order)))])
            if ends not in unlike:
                unlike.append(ends)
        told.append(len(unlike))
    return told


def all_walks(kinds, sizes, answers):
    """All walks, right or not, with so many nodes in each level but the last, and at the last some of the answers."""
    levels = []
    for size, behind in zip(sizes, sizes[1:]):
        nodes = [list(node) for node in itertools.product(range(behind), repeat=kinds)]
        levels.append([list(level) for level in itertools.product(nodes, repeat=size)])
    levels.append([list(level) for level in itertools.product(answers, repeat=sizes[-1])])
    return itertools.product(*levels)


class TestWalks(unittest.TestCase, Refusals):

    def test_two_places(self):
        book = ([("b", []), ("a", ["b"])], 2, [("r", ("b", "a")), ("s", ("a", "b"))])
        both = ("quarrel", ("r", "s"))
        self.assertEqual(walk_of(book, [0, 1]), [[[0, 1]], [[0, 1], [2, 3]], [NONE, ("rule", "r"), ("rule", "s"), both]])
        self.assertEqual(walk_of(book, [1, 0]), [[[0, 1]], [[0, 1], [2, 3]], [NONE, ("rule", "s"), ("rule", "r"), both]])

    def test_nodes_that_are_the_same_are_one(self):
        self.assertEqual(walk_of(BOOK, [0, 1]), [
            [[0, 1, 2, 2, 3, 4]],
            [[0, 0, 0, 0, 0, 1], [0, 0, 0, 0, 0, 2], [3, 3, 3, 3, 3, 1], [3, 3, 3, 3, 3, 2], [0] * 6],
            [NONE, ("rule", "r"), ("rule", "s"), ("rule", "t")]])
        self.assertEqual(walk_of(BOOK, [1, 0]), [
            [[0, 0, 0, 0, 0, 1]], [[0, 0, 1, 1, 1, 0], [2, 3, 2, 2, 3, 0]],
            [NONE, ("rule", "t"), ("rule", "r"), ("rule", "s")]])

    def test_three_places_and_every_order(self):
        book = (CHAIN, 3, [("r", ("a", "b", "c"))])
        rule = ("rule", "r")
        self.assertEqual(walk_of(book, [0, 1, 2]), [
            [[0, 0, 0]], [[0, 1, 1]], [[0, 0, 0], [0, 0, 1]], [NONE, rule]])
        self.assertEqual(walk_of(book, [0, 2, 1]), [
            [[0, 0, 0]], [[0, 0, 1]], [[0, 0, 0], [0, 1, 1]], [NONE, rule]])
        self.assertEqual(walk_of(book, [1, 0, 2]), [
            [[0, 1, 1]], [[0, 0, 0], [1, 1, 1]], [[0, 0, 0], [0, 0, 1]], [NONE, rule]])
        self.assertEqual(walk_of(book, [1, 2, 0]), [
            [[0, 1, 1]], [[0, 0, 0], [0, 0, 1]], [[0, 0, 0], [1, 1, 1]], [NONE, rule]])
        self.assertEqual(walk_of(book, [2, 0, 1]), [
            [[0, 0, 1]], [[0, 0, 0], [1, 1, 1]], [[0, 0, 0], [0, 1, 1]], [NONE, rule]])
        self.assertEqual(walk_of(book=book, order=[2, 1, 0]), [
            [[0, 0, 1]], [[0, 0, 0], [0, 1, 1]], [[0, 0, 0], [1, 1, 1]], [NONE, rule]])

    def test_no_rules_and_one_kind(self):
        for places in (1, 2, 3):
            for order in orders(places):
                self.assertEqual(walk_of((DIAMOND, places, []), order), [[[0] * 6]] * places + [[NONE]])
                self.assertEqual(walk_of((loose_web(1), places, []), order), [[[0]]] * places + [[NONE]])
        self.assertEqual(walk_of((loose_web(1), 1, [("r", ("a",))]), [0]), [[[0]], [("rule", "r")]])

    def test_ten_kinds(self):
        web = loose_web(10)
        rules = [(name, (kind,)) for name, kind in zip(kind_names(10, 2), kind_names(10))]
        self.assertEqual(walk_of((web, 1, rules), [0]), [[list(range(10))], [("rule", name) for name, _ in rules]])
        grid = [(name, kinds) for name, kinds in zip(kind_names(12, 2), itertools.product("bcd", "fghi"))]
        for order in orders(2):
            walk = walk_of((web, 2, grid), order)
            self.assertTrue(holds((web, 2, grid), order, walk))
        self.assertEqual([len(level) for level in walk_of((web, 2, grid), [0, 1])], [1, 4, 13])
        self.assertEqual([len(level) for level in walk_of((web, 2, grid), [1, 0])], [1, 5, 13])

    def test_against_a_plain_reading(self):
        for book in some_books(150, most=5, most_places=3, most_rules=8, seed=51):
            if book[1] == 3 and len(book[0]) > 4:
                continue
            for order in orders(book[1]):
                walk = walk_of(book, order)
                self.assertTrue(holds(book, order, walk), (book, order))
                self.assertEqual([len(level) for level in walk], needed(book, order))
                self.assertIs(is_walk(book, order, walk), True)
                for call in plain_calls(book):
                    self.assertEqual(walked(book[0], walk, order, call), plain_answer(book, call))

    def test_no_right_walk_has_fewer_nodes_in_any_level(self):
        tried = 0
        for book in some_books(60, most=2, most_places=2, most_rules=4, seed=52):
            for order in orders(book[1]):
                told = [len(level) for level in walk_of(book, order)]
                answers = plain_answers(book)
                ends = sorted(set(answers.values()))
                for level in range(1, len(told)):
                    # Two kinds come to no more than two nodes, and more ends than unlike answers are of no use.
                    sizes = [1] + [2] * (book[1] - 1) + [len(ends)]
                    sizes[level] = told[level] - 1
                    if sizes[level] < 1:
                        continue
                    tried += 1
                    for walk in all_walks(len(book[0]), sizes, ends):
                        self.assertFalse(is_right(book, order, walk, answers), (book, order, walk))
        self.assertGreater(tried, 40)

    def test_walked(self):
        web = loose_web(3)
        walk = [[[0, 1, 0]], [[0, 0, 1], [2, 1, 0]], [NONE, ("rule", "x"), ("rule", "y")]]
        self.assertEqual(walked(web, walk, [0, 1], ("a", "c")), ("rule", "x"))
        self.assertEqual(walked(web, walk, [0, 1], ("b", "a")), ("rule", "y"))
        self.assertEqual(walked(web, walk, [1, 0], ("a", "b")), ("rule", "y"))
        self.assertEqual(walked(web=web, walk=walk, order=[1, 0], call=("c", "a")), ("rule", "x"))

    def test_walked_is_refused(self):
        for places in (1, 2, 3):
            for order in orders(places):
                walk = walk_of((DIAMOND, places, [("r", ("b",) * places)]), order)
                for count in (0, 1, 2, 3, 4):
                    if count != places:
                        self.assert_refused(NoCall, None, walked, DIAMOND, walk, order, ("a",) * count)
                        self.assert_refused(NoCall, None, walked, DIAMOND, walk, order, ("x",) * count)
                self.assert_refused(NoKind, "x", walked, DIAMOND, walk, order, ("a",) * (places - 1) + ("x",))
                # The first name as it is handed in, whatever the order.
                self.assert_refused(NoKind, "y", walked, DIAMOND, walk, order, ("y",) + ("x",) * (places - 1))
        walk = walk_of(BOOK, [1, 0])
        self.assert_refused(NoKind, "x", walked, DIAMOND, walk, [1, 0], (("a", "x"), "y"))

    def test_anything(self):
        books = [(BOOK, [0, 1]), (BOOK, [1, 0]), ((DIAMOND, 1, []), [0]), ((CHAIN, 3, [("r", ("a", "b", "c"))]), [1, 2, 0])]
        for book, order in books:
            right = walk_of(book, order)
            for thing in ANYTHING:
                self.assertIs(is_walk(book, order, thing), False)
            for thing in spoiled(right):
                self.assertIs(is_walk(book, order, thing), repr(thing) == repr(right), thing)
            self.assertIs(is_walk(book=book, order=order, thing=right), True)

    def test_other_right_walks(self):
        book = ([("a", []), ("b", [])], 2, [("r", ("b", "b"))])
        rule = ("rule", "r")
        self.assertIs(is_walk(book, [0, 1], [[[0, 1]], [[0, 0], [0, 1]], [NONE, rule]]), True)
        others = [
            [[[1, 0]], [[0, 1], [0, 0]], [NONE, rule]],
            [[[0, 1]], [[1, 1], [1, 0]], [rule, NONE]],
            [[[0, 1]], [[0, 0], [0, 1], [1, 1]], [NONE, rule]],
            [[[0, 1]], [[0, 2], [0, 1]], [NONE, rule, NONE]],
            [[[0, 1]], [[0, 0], [0, 1]], [NONE, rule, ("rule", "s")]],
            [[[0, 1], [0, 1]], [[0, 0], [0, 1]], [NONE, rule]],
            [[[0, 1]], [[0, 0], [0, 1]], [rule, NONE]],
            [[[False, 1]], [[0, 0], [0, 1]], [NONE, rule]], [[[0, True]], [[0, 0], [0, 1]], [NONE, rule]],
            [[[0, 1]], [[0, 0], [0, True]], [NONE, rule]], [[(0, 1)], [[0, 0], [0, 1]], [NONE, rule]],
            ([[0, 1]], [[0, 0], [0, 1]], [NONE, rule]), [[[0, 1]], [[0, 0], [0, 1]], [NONE, ["rule", "r"]]]]
        for walk in others:
            self.assertIs(is_walk(book, [0, 1], walk), False, walk)
        # For another order another walk is the book's.
        self.assertIs(is_walk(BOOK, [1, 0], walk_of(BOOK, [0, 1])), False)

    def test_the_askers_own(self):
        book = copy.deepcopy(BOOK)
        walk = self.assert_untouched(walk_of, book, [1, 0])
        self.assert_untouched(walked, book[0], walk, [1, 0], ("a", "f"))
        self.assert_untouched(is_walk, book, [1, 0], walk)
        self.assert_untouched(best_order, book)
        first, second, third = walk_of((DIAMOND, 2, []), [0, 1])
        first[0].append(1)
        self.assertEqual(second, [[0] * 6])

    def test_a_book_changed_between_two_askings(self):
        book = ([("a", []), ("b", [])], 1, [("r", ("a",))])
        self.assertEqual(walk_of(book, [0]), [[[0, 1]], [("rule", "r"), NONE]])
        book[0][1][1].append("a")
        self.assertEqual(walk_of(book, [0]), [[[0, 0]], [("rule", "r")]])
        self.assertIs(is_walk(book, [0], [[[0, 0]], [("rule", "r")]]), True)
        book[2].append(("s", ("b",)))
        self.assertIs(is_walk(book, [0], [[[0, 0]], [("rule", "r")]]), False)
        self.assertEqual(walk_of(book, [0]), [[[0, 1]], [("rule", "r"), ("rule", "s")]])


class TestBestOrder(unittest.TestCase, Refusals):

    def test_best_order(self):
        self.assertEqual(best_order(BOOK), [1, 0])
        self.assertEqual(best_order((DIAMOND, 2, [(name, kinds[::-1]) for name, kinds in BOOK[2]])), [0, 1])
        self.assertEqual(best_order(book=(DIAMOND, 1, [])), [0])

    def test_the_first_of_several(self):
        for places in (1, 2, 3):
            self.assertEqual(best_order((DIAMOND, places, [])), list(range(places)))
            self.assertEqual(best_order((DIAMOND, places, [("r", ("b",) * places)])), list(range(places)))
        # The place that parts the answers is best the last one; the order of the others is all the same.
        for place, order in ((0, [1, 2, 0]), (1, [0, 2, 1]), (2, [0, 1, 2])):
            kinds = tuple("b" if number == place else "a" for number in range(3))
            self.assertEqual(best_order((CHAIN, 3, [("r", kinds)])), order)

    def test_each_order_may_be_best(self):
        met = set()
        for book in some_books(400, most=3, most_places=3, most_rules=6, seed=53):
            told = best_order(book)
            self.assertIsInstance(told, list)
            met.add(tuple(told))
            counts = {tuple(order): sum(needed(book, order)) for order in orders(book[1])}
            least = min(counts.values())
            self.assertEqual(told, list(min(order for order in counts if counts[order] == least)))
        self.assertEqual(met, {order for places in (1, 2, 3) for order in itertools.permutations(range(places))})

    def test_a_book_changed_between_two_askings(self):
        book = copy.deepcopy(BOOK)
        self.assertEqual(best_order(book), [1, 0])
        book[2].clear()
        self.assertEqual(best_order(book), [0, 1])

    def test_the_time_stays_small(self):
        ahead = time.process_time()
        for web, places in ((loose_web(6), 3), (loose_web(10), 2)):
            every = list(itertools.product([name for name, _ in web], repeat=places))
            best_order((web, places, list(zip(kind_names(12, 2), every[::8]))))
        self.assertLess(time.process_time() - ahead, 5)


if __name__ == "__main__":
    unittest.main()
