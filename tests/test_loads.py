"""[26]: light trees, loads and price papers."""

import copy
import itertools
import time
import unittest

from bestcalls.loads import is_prices, light, load_of, prices
from bestcalls.questions import depth_of, tells, tree_of
from helper import (
    ANYTHING, DIAMOND, MOST, Refusals, all_trees, loose_web, plain_are_lines, plain_load, plain_nodes_come_to, plain_split,
    plain_tells, some_labels, some_webs, some_weights, spoiled)

CHAIN = [("a", []), ("b", ["a"]), ("c", ["b"])]
TREE = [("ask", "b", 1, 4), ("ask", "c", 2, 3), ("tell", 20), ("tell", 10), ("tell", 0)]
PAPER = [(["a", "b", "c"], 14), (["b", "c"], 11), (["a", "b"], 3)]


def least_load(web, labels, weights, kinds, asks):
    """The least load of a tree with at most so many questions on a way; all questions are tried."""
    if len({labels[kind] for kind in kinds}) <= 1:
        return 0
    if asks == 0:
        return MOST
    own = sum(weights[kind] for kind in kinds)
    halves = [plain_split(web, kinds, asked) for asked, _ in web]
    return min(own + sum(least_load(web, labels, weights, half, asks - 1) for half in pair) for pair in halves)


def by_name(web, row):
    return {name: part for (name, _), part in zip(web, row)}


def plain_is_prices(web, labels, weights, paper):
    """[26] clause by clause, of anything."""
    if not plain_are_lines(web, paper):
        return False
    label, weight = by_name(web, labels), by_name(web, weights)
    if any(one[0] == other[0] for one, other in itertools.combinations(paper, 2)):
        return False
    for number, (kinds, price) in enumerate(paper):
        if len({label[kind] for kind in kinds}) <= 1:
            if price != 0:
                return False
            continue
        for asked, _ in web:
            halves = plain_split(web, kinds, asked)
            if not halves[0] or not halves[1]:
                continue
            most = sum(weight[kind] for kind in kinds)
            for half in halves:
                behind = [line[1] for line in paper[number + 1:] if line[0] == half]
                if len({label[kind] for kind in half}) > 1:
                    if not behind:
                        return False
                    most += behind[0]
            if price > most:
                return False
    return True


class TestLight(unittest.TestCase, Refusals):

    def test_one_node(self):
        self.assertEqual(light([("a", [])], [3], [999]), [("tell", 3)])
        self.assertEqual(light(web=DIAMOND, labels=[-MOST] * 6, weights=[999] * 6), [("tell", -MOST)])
        self.assertEqual(prices([("a", [])], [3], [999]), [(["a"], 0)])
        self.assertEqual(prices(web=DIAMOND, labels=[1] * 6, weights=[999] * 6), [(list("abcdef"), 0)])

    def test_the_heavy_ones_first(self):
        web, labels = loose_web(4), [1, 2, 3, 4]
        for heavy in range(4):
            weights = [100 if number == heavy else 1 for number in range(4)]
            told = light(web, labels, weights)
            self.assertEqual(told[0][1], "abcd"[heavy])
            self.assertEqual(load_of(web, told, weights), 108)
        self.assertEqual(prices(web, labels, [100, 1, 1, 1])[0], (["a", "b", "c", "d"], 108))

    def test_deeper_but_lighter(self):
        # A tree of the depth 2 halves the four, but the one that asks for d first, and is 3 deep, is lighter.
        web = [("a", []), ("b", ["a"]), ("c", ["a"]), ("d", ["b", "c"])]
        labels, weights = [1, 2, 3, 4], [1, 1, 1, 100]
        told = light(web, labels, weights)
        self.assertEqual(load_of(web, told, weights), 108)
        self.assertEqual(depth_of(told), 3)
        self.assertEqual(load_of(web, tree_of(web, labels), weights), 206)

    def test_weights_of_nought(self):
        web, labels = loose_web(4), [1, 2, 3, 4]
        told = light(web, labels, [0] * 4)
        self.assertIs(tells(web, labels, told), True)
        self.assertEqual(plain_nodes_come_to(web, told), set(range(len(told))))
        self.assertEqual(load_of(web, told, [0] * 4), 0)
        self.assertEqual(prices(web, labels, [0] * 4)[0], (["a", "b", "c", "d"], 0))

    def test_load_of(self):
        self.assertEqual(load_of(CHAIN, TREE, [1, 10, 100]), 221)
        self.assertEqual(load_of(web=CHAIN, tree=TREE, weights=[999, 0, 999]), 999 * 3)
        self.assertEqual(load_of(CHAIN, [("tell", 0)], [999, 999, 999]), 0)

    def test_against_a_plain_reading(self):
        met = set()
        for number, web in enumerate(some_webs(60, most=5, seed=81)):
            for labels, weights in itertools.product(some_labels(web, number)[1:], some_weights(web, number)):
                told = light(web, labels, weights)
                self.assertTrue(plain_tells(web, labels, told), (web, labels, told))
                self.assertEqual(plain_nodes_come_to(web, told), set(range(len(told))))
                self.assertEqual(load_of(web, told, weights), plain_load(web, told, weights))
                paper = prices(web, labels, weights)
                self.assertEqual(paper[0][1], plain_load(web, told, weights))
                self.assertTrue(plain_is_prices(web, labels, weights, paper), (web, labels, weights, paper))
                self.assertIs(is_prices(web, labels, weights, paper), True)
                if number < 30:
                    names = [name for name, _ in web]
                    least = least_load(web, by_name(web, labels), by_name(web, weights), names, len(web) - 1)
                    self.assertEqual(paper[0][1], least)
                    met.add(least)
        self.assertGreater(len(met), 50)

    def test_no_tree_of_up_to_three_questions_has_a_lesser_load(self):
        for web in some_webs(12, most=3, seed=82):
            names = [name for name, _ in web]
            for labels in ([0, 1, 2], [0, 0, 1], [0, 1, 0], [1, 0, 0], [4, 4, 4]):
                labels = labels[:len(web)]
                right = [tree for asks in range(4) for tree in all_trees(names, sorted(set(labels)), asks)
                         if plain_tells(web, labels, tree)]
                for weights in ([1, 1, 1], [999, 1, 0], [0, 0, 7], [1, 5, 2]):
                    weights = weights[:len(web)]
                    told = load_of(web, light(web, labels, weights), weights)
                    self.assertEqual(told, min(plain_load(web, tree, weights) for tree in right))

    def test_ten_kinds_and_the_time(self):
        ahead = time.process_time()
        web, labels, weights = loose_web(10), list(range(10)), [999] * 10
        self.assertEqual(load_of(web, light(web, labels, weights), weights), 999 * (sum(range(1, 10)) + 9))
        paper = prices(web, labels, weights)
        self.assertEqual(paper[0], (list("abcdefghij"), 999 * 54))
        self.assertIs(is_prices(web, labels, weights, paper), True)
        self.assertLess(time.process_time() - ahead, 10)

    def test_the_askers_own(self):
        web, labels, weights = copy.deepcopy(DIAMOND), [1, 2, 3, 1, 2, 3], [5, 0, 999, 7, 1, 2]
        tree = self.assert_untouched(light, web, labels, weights)
        self.assert_untouched(load_of, web, tree, weights)
        paper = self.assert_untouched(prices, web, labels, weights)
        self.assert_untouched(is_prices, web, labels, weights, paper)
        told = prices(web, labels, weights)
        told[1][0].clear()
        self.assertEqual(told[0], paper[0])

    def test_a_web_changed_between_two_askings(self):
        web, labels, weights = [("a", []), ("b", []), ("c", []), ("d", [])], [1, 2, 3, 4], [1, 1, 1, 1]
        paper = prices(web, labels, weights)
        self.assertEqual(paper[0][1], 9)
        tree = light(web, labels, weights)
        web[1][1].append("a")
        web[3][1].extend(["a", "c"])
        self.assertIs(is_prices(web, labels, weights, paper), False)
        self.assertEqual(prices(web, labels, weights)[0][1], 8)
        self.assertEqual(load_of(web, light(web, labels, weights), weights), 8)
        weights[:] = [2, 2, 2, 2]
        self.assertEqual(prices(web, labels, weights)[0][1], 16)
        labels[:] = [4, 4, 4, 4]
        self.assertEqual(prices(web, labels, weights)[0][1], 0)
        self.assertEqual(load_of(loose_web(4), tree, weights), 18)


class TestIsPrices(unittest.TestCase, Refusals):

    # By the chain a, b, c with unlike labels and the weights 1, 2, 9: asked for c first, then for b.
    labels, weights = [1, 2, 3], [1, 2, 9]

    def is_let_by(self, paper):
        told = is_prices(CHAIN, self.labels, self.weights, paper)
        self.assertIs(told, plain_is_prices(CHAIN, self.labels, self.weights, paper), paper)
        return told

    def test_is_prices(self):
        self.assertEqual(prices(CHAIN, self.labels, self.weights)[0], (["a", "b", "c"], 15))
        whole = (["a", "b", "c"], 15)
        self.assertIs(is_prices(web=CHAIN, labels=self.labels, weights=self.weights, paper=[whole] + PAPER[1:]), True)
        self.assertTrue(self.is_let_by([whole, PAPER[2], PAPER[1]]))
        # Lesser prices show less, but they show it.
        self.assertTrue(self.is_let_by(PAPER))
        self.assertTrue(self.is_let_by([(["a", "b", "c"], 0), (["b", "c"], 0), (["a", "b"], 0)]))
        self.assertTrue(self.is_let_by([(["a", "b", "c"], 12), (["b", "c"], 0), (["a", "b"], 0)]))
        # Lines that are not needed do no harm: of kinds alike, of none, and of others that hold by themselves.
        self.assertTrue(self.is_let_by(PAPER + [(["a"], 0), ([], 0), (["c"], 0)]))
        self.assertTrue(self.is_let_by([whole, (["b"], 0)] + PAPER[1:]))
        self.assertTrue(self.is_let_by(PAPER + [(["a", "c"], 10)]))

    def test_each_clause(self):
        whole, low, high = (["a", "b", "c"], 15), (["b", "c"], 11), (["a", "b"], 3)
        wrong = [
            [], [whole], [whole, low], [whole, high], [low, whole, high], [low, high, whole],
            # Prices that are too high by one, the first and others.
            [(["a", "b", "c"], 16), low, high], [whole, (["b", "c"], 12), high], [whole, low, (["a", "b"], 4)],
            [whole, low, (["a", "b"], 2)], [whole, low, high, (["a"], 1)], [whole, low, high, ([], 1)],
            [whole, low, high, (["a", "c"], 11)],
            # The same kinds twice, with the same price or another one.
            [whole, whole, low, high], [whole, low, high, low], [whole, low, high, (["b", "c"], 0)],
            [whole, low, high, ([], 0), ([], 0)],
            # Other orders, and other names.
            [(["b", "a", "c"], 15), low, high], [whole, (["c", "b"], 11), high], [whole, low, high, (["a", "a"], 0)],
            [whole, low, high, (["x"], 0)], [whole, low, high, ([None], 0)],
            # Other kinds of things.
            [whole, low, high, (["a"], False)], [whole, low, high, (("a",), 0)], [whole, low, high, [["a"], 0]],
            [whole, low, high, (["a"], 0, 0)], [whole, low, high, (["a"],)], [whole, low, high, (["a"], -1)],
            [whole, low, high, (["a"], None)], (whole, low, high)]
        for paper in wrong:
            self.assertFalse(self.is_let_by(paper), paper)
        self.assertTrue(self.is_let_by([whole, low, high]))

    def test_labels_all_alike(self):
        for weights in ([0, 0, 0], [999, 999, 999]):
            self.assertIs(is_prices(CHAIN, [1, 1, 1], weights, [(["a", "b", "c"], 0)]), True)
            self.assertIs(is_prices(CHAIN, [1, 1, 1], weights, [(["a", "b", "c"], 1)]), False)
            self.assertIs(is_prices(CHAIN, [1, 1, 1], weights, [(["a", "b", "c"], False)]), False)
            self.assertIs(is_prices(CHAIN, [1, 1, 1], weights, [(["a", "b"], 0)]), False)

    def test_halves_ahead_do_not_count(self):
        web, labels, weights = loose_web(4), [1, 2, 3, 4], [1, 1, 1, 1]
        paper = prices(web, labels, weights)
        for number in range(2, len(paper)):
            moved = [paper[0], paper[number]] + paper[1:number] + paper[number + 1:]
            self.assertIs(is_prices(web, labels, weights, moved), plain_is_prices(web, labels, weights, moved), moved)
        self.assertIs(is_prices(web, labels, weights, paper[:1] + paper[:0:-1]), False)

    def test_anything(self):
        for thing in ANYTHING:
            self.assertIs(is_prices(CHAIN, self.labels, self.weights, thing), False)
        met = {True: 0, False: 0}
        for web, labels, weights in ((CHAIN, [1, 2, 1], [1, 2, 9]), (CHAIN, [1, 1, 2], [0, 0, 0]),
                                     (DIAMOND, [1, 2, 3, 1, 2, 3], [5, 0, 999, 7, 1, 2]), (loose_web(3), [4, 4, 4], [1, 1, 1])):
            for thing in spoiled(prices(web, labels, weights)):
                told = is_prices(web, labels, weights, thing)
                self.assertIs(told, plain_is_prices(web, labels, weights, thing), thing)
                met[told] += 1
        self.assertGreater(min(met.values()), 10)


if __name__ == "__main__":
    unittest.main()
