"""[24]: trees of questions that tell labels."""

import copy
import itertools
import time
import unittest

from bestcalls.errors import NoKind
from bestcalls.questions import depth_of, led, tells, tree_of
from helper import (
    ANYTHING, DIAMOND, MOST, Refusals, all_trees, loose_web, plain_depth, plain_led, plain_nodes_come_to, plain_split,
    plain_tells, some_labels, some_webs, spoiled)

CHAIN = [("a", []), ("b", ["a"]), ("c", ["b"])]
LONG_CHAIN = [(name, [ahead] if ahead else []) for ahead, name in zip([""] + list("abcdefghi"), "abcdefghij")]
TREE = [("ask", "b", 1, 4), ("ask", "c", 2, 3), ("tell", 20), ("tell", 10), ("tell", 0)]


def comb(count, kind="a", label=5):
    """A tree of so many questions, all of one kind, that leads whatever stands on it to the label."""
    tree = []
    for number in range(count):
        tree += [("ask", kind, 2 * number + 2, 2 * number + 1), ("tell", number)]
    return tree + [("tell", label)]


def can(web, labels, kinds, depth):
    """Whether some tree of this depth or less tells the labels of these kinds; all questions are tried."""
    if len({labels[kind] for kind in kinds}) <= 1:
        return True
    if depth == 0:
        return False
    halves = [plain_split(web, kinds, asked) for asked, _ in web]
    return any(can(web, labels, those, depth - 1) and can(web, labels, others, depth - 1) for those, others in halves)


def least_depth(web, labels):
    by_name = {name: label for (name, _), label in zip(web, labels)}
    return next(depth for depth in itertools.count() if can(web, by_name, list(by_name), depth))


class TestTreeOf(unittest.TestCase, Refusals):

    def test_one_node(self):
        self.assertEqual(tree_of([("a", [])], [3]), [("tell", 3)])
        self.assertEqual(tree_of(web=DIAMOND, labels=[-MOST] * 6), [("tell", -MOST)])
        self.assertEqual(tree_of(loose_web(10), [0] * 10), [("tell", 0)])

    def test_a_question(self):
        told = tree_of([("a", []), ("b", [])], [1, 2])
        self.assertIn(told, [[("ask", "a", 1, 2), ("tell", 1), ("tell", 2)], [("ask", "b", 1, 2), ("tell", 2), ("tell", 1)],
                             [("ask", "a", 2, 1), ("tell", 2), ("tell", 1)], [("ask", "b", 2, 1), ("tell", 1), ("tell", 2)]])
        # On a all kinds stand, so a question for it is of no use.
        self.assertEqual(depth_of(tree_of(CHAIN, [1, 1, 2])), 1)
        self.assertEqual(depth_of(tree_of(CHAIN, [1, 2, 1])), 2)

    def test_ten_kinds(self):
        web = loose_web(10)
        self.assertEqual(depth_of(tree_of(web, list(range(10)))), 9)
        self.assertEqual(depth_of(tree_of(web, [0] * 9 + [1])), 1)
        # Of a chain each question may halve what is left.
        self.assertEqual(depth_of(tree_of(LONG_CHAIN, list(range(10)))), 4)
        self.assertEqual(depth_of(tree_of(LONG_CHAIN, [0, 1] * 5)), 4)
        self.assertEqual(depth_of(tree_of(LONG_CHAIN[:8], [MOST - number for number in range(8)])), 3)

    def test_better_than_the_next_best_question(self):
        # Asked for b or c first, two and two are left; asked for d first, three.
        web = [("a", []), ("b", ["a"]), ("c", ["a"]), ("d", ["b", "c"])]
        self.assertEqual(depth_of(tree_of(web, [0, 1, 2, 3])), 2)
        self.assertEqual(depth_of(tree_of(web, [0, 1, 1, 0])), 2)
        self.assertEqual(depth_of(tree_of(web, [0, 0, 0, 1])), 1)

    def test_against_a_plain_reading(self):
        met = {}
        for number, web in enumerate(some_webs(60, most=6, seed=61)):
            for labels in some_labels(web, number):
                told = tree_of(web, labels)
                self.assertTrue(plain_tells(web, labels, told), (web, labels, told))
                self.assertEqual(plain_nodes_come_to(web, told), set(range(len(told))))
                least = least_depth(web, labels)
                self.assertEqual(plain_depth(told), least, (web, labels))
                met[least] = met.get(least, 0) + 1
                self.assertIs(tells(web, labels, told), True)
                self.assertEqual(depth_of(told), least)
        self.assertGreater(min(met[depth] for depth in range(4)), 20)

    def test_no_tree_of_up_to_three_questions_has_a_lesser_depth(self):
        for web in some_webs(12, most=3, seed=62):
            names = [name for name, _ in web]
            for labels in ([0, 1, 2], [0, 0, 1], [0, 1, 0], [1, 0, 0], [4, 4, 4]):
                labels = labels[:len(web)]
                depths = [plain_depth(tree) for asks in range(4) for tree in all_trees(names, sorted(set(labels)), asks)
                          if plain_tells(web, labels, tree)]
                self.assertEqual(depth_of(tree_of(web, labels)), min(depths))

    def test_the_time_stays_small(self):
        ahead = time.process_time()
        for web in (loose_web(10), LONG_CHAIN, loose_web(1) + [(name, ["a"]) for name, _ in loose_web(10)[1:]]):
            for labels in some_labels(web, 63):
                self.assertIs(tells(web, labels, tree_of(web, labels)), True)
        self.assertLess(time.process_time() - ahead, 10)

    def test_the_askers_own(self):
        web, labels = copy.deepcopy(DIAMOND), [1, 2, 3, 1, 2, 3]
        self.assert_untouched(tree_of, web, labels)
        told = self.assert_untouched(tree_of, web, [4] * 6)
        self.assertEqual(told, [("tell", 4)])

    def test_a_web_changed_between_two_askings(self):
        web = [("a", []), ("b", []), ("c", []), ("d", [])]
        labels = [1, 2, 3, 4]
        self.assertEqual(depth_of(tree_of(web, labels)), 3)
        web[1][1].append("a")
        web[3][1].append("a")
        web[3][1].append("c")
        told = tree_of(web, labels)
        self.assertEqual(depth_of(told), 2)
        self.assertIs(tells(web, labels, told), True)
        labels[0] = 5
        self.assertIs(tells(web, labels, told), False)
        web[3][1].clear()
        self.assertIs(tells(web, [1, 2, 3, 4], told), False)


class TestDepthAndLed(unittest.TestCase, Refusals):

    def test_depth_of(self):
        self.assertEqual(depth_of([("tell", 4)]), 0)
        self.assertEqual(depth_of(tree=TREE), 2)
        self.assertEqual(depth_of([("ask", "b", 2, 1), ("ask", "c", 4, 3), ("tell", 20), ("tell", 10), ("tell", 0)]), 2)
        self.assertEqual(depth_of([("ask", "b", 3, 6)] + [("tell", 0)] * 2 + [("ask", "c", 4, 5)] + [("tell", 0)] * 3), 2)
        for count in (1, 2, 29, 30, 31):
            self.assertEqual(depth_of(comb(count)), count)
        # Both sides may be the deeper one; a way that no kind goes counts too.
        self.assertEqual(depth_of([("ask", "a", 1, 2), ("tell", 1), ("ask", "a", 3, 4), ("tell", 1), ("tell", 1)]), 2)
        self.assertEqual(depth_of([("ask", "a", 1, 2), ("ask", "a", 3, 4), ("tell", 1), ("tell", 1), ("tell", 1)]), 2)

    def test_led(self):
        self.assertEqual([led(CHAIN, TREE, kind) for kind in "abc"], [(0, 1), (10, 2), (20, 2)])
        self.assertEqual(led(web=CHAIN, tree=[("tell", -3)], arm="b"), (-3, 0))
        self.assertEqual(led(CHAIN, comb(29), "a"), (5, 29))
        self.assertEqual(led(CHAIN, comb(29, "b"), "a"), (0, 1))
        self.assertEqual(led(CHAIN, comb(30), "c"), (5, 30))

    def test_kinds_to_come(self):
        tree = [("ask", "b", 1, 4), ("ask", "c", 2, 3), ("tell", 20), ("tell", 10), ("ask", "f", 5, 6), ("tell", 7), ("tell", 0)]
        self.assertEqual(led(DIAMOND, tree, ("b", "d")), (20, 2))
        self.assertEqual(led(DIAMOND, tree, ("b",)), (10, 2))
        self.assertEqual(led(DIAMOND, tree, ("f", "b")), (10, 2))
        self.assertEqual(led(DIAMOND, tree, ("c", "f")), (7, 2))
        self.assertEqual(led(DIAMOND, tree, ("a", "c")), (0, 2))

    def test_against_a_plain_reading(self):
        for number, web in enumerate(some_webs(40, most=6, seed=64)):
            names = [name for name, _ in web]
            arms = names + [(name,) for name in names] + list(itertools.permutations(names, 2))
            for labels in some_labels(web, number)[1:4]:
                tree = tree_of(web, labels)
                for arm in arms:
                    self.assertEqual(led(web, tree, arm), plain_led(web, tree, arm))

    def test_led_is_refused(self):
        for tree in (TREE, [("tell", 0)]):
            self.assert_refused(NoKind, "x", led, CHAIN, tree, "x")
            self.assert_refused(NoKind, "x", led, CHAIN, tree, ("x",))
            self.assert_refused(NoKind, "y", led, CHAIN, tree, ("a", "y", "x"))
            self.assert_refused(NoKind, "x", led, CHAIN, tree, ("x", "a", "y"))

    def test_the_askers_own(self):
        self.assert_untouched(depth_of, copy.deepcopy(TREE))
        self.assert_untouched(led, copy.deepcopy(CHAIN), copy.deepcopy(TREE), ("b", "c"))
        web = copy.deepcopy(CHAIN)
        self.assertEqual(led(web, TREE, "c"), (20, 2))
        web[2][1].clear()
        self.assertEqual(led(web, TREE, "c"), (0, 1))


class TestTells(unittest.TestCase, Refusals):

    def test_tells(self):
        labels = [0, 10, 20]
        self.assertIs(tells(CHAIN, labels, TREE), True)
        self.assertIs(tells(web=CHAIN, labels=labels, thing=TREE), True)
        self.assertIs(tells(CHAIN, [0, 10, 21], TREE), False)
        self.assertIs(tells(CHAIN, [1, 10, 20], TREE), False)
        # A tree may ask more than it needs, and have nodes that no kind comes to, in any order behind what leads there.
        more = [("ask", "a", 2, 1), ("tell", MOST), ("ask", "c", 4, 3), ("ask", "b", 6, 5), ("tell", 20), ("tell", 0), ("tell", 10)]
        self.assertIs(tells(CHAIN, labels, more), True)

    def test_leads_elsewhere(self):
        ask, tail = ("ask", "b", 1, 2), [("tell", 0), ("tell", 1)]
        labels = [1, 0, 0]
        self.assertIs(tells(CHAIN, labels, [ask] + tail), True)
        for node in [("ask", "b", 0, 2), ("ask", "b", 1, 0), ("ask", "b", 1, 1), ("ask", "b", 1, 3), ("ask", "b", -1, 2),
                     ("ask", "b", 1, -1), ("ask", "b", True, 2), ("ask", "b", 1, None), ("ask", "b", "1", 2), ("ask", "x", 1, 2),
                     ("ask", ("b",), 1, 2), ("ask", [], 1, 2), ("ask", "b", 1), ("ask", "b", 1, 2, 3), ["ask", "b", 1, 2],
                     ("tell", "b", 1, 2), ("asks", "b", 1, 2), ("ask",), ()]:
            self.assertIs(tells(CHAIN, labels, [node] + tail), False, node)
        # A node that none leads to, and one that two lead to.
        self.assertIs(tells(CHAIN, labels, [ask] + tail + [("tell", 0)]), False)
        self.assertIs(tells(CHAIN, labels, tail[1:] + tail), False)
        two = [("ask", "b", 1, 2), ("ask", "c", 2, 3), ("tell", 1), ("tell", 0)]
        self.assertIs(tells(CHAIN, [1, 0, 1], two), False)
        two = [("ask", "b", 1, 3), ("ask", "c", 2, 3), ("tell", 1), ("tell", 0)]
        self.assertIs(tells(CHAIN, [0, 0, 1], two), False)
        # A node that is neither, where no kind comes to it.
        for node in (("asks", "b", 3, 4), ("tell", "b", 3, 4), ("asks", 0)):
            tree = [("ask", "a", 1, 2), ("ask", "b", 3, 4), node, ("tell", 0), ("tell", 1)]
            self.assertIs(tells(CHAIN, labels, tree), False)
        # One that leads to itself, or ahead of it.
        self.assertIs(tells(CHAIN, [0, 0, 0], [("tell", 0), ("ask", "a", 1, 2), ("tell", 0)]), False)
        self.assertIs(tells(CHAIN, [0, 0, 0], [("tell", 0), ("ask", "a", 2, 3), ("ask", "a", 1, 4), ("tell", 0), ("tell", 0)]), False)
        self.assertIs(tells(CHAIN, [0, 0, 0], [("ask", "a", 1, 2), ("tell", 0), ("ask", "a", 2, 1)]), False)
        self.assertIs(tells(CHAIN, [0, 0, 0], [("tell", 0), ("ask", "a", 0, 2), ("tell", 0)]), False)
        self.assertIs(tells(CHAIN, [0, 0, 0], [("ask", "a", 2, 3), ("tell", 0), ("ask", "a", 1, 4), ("tell", 0), ("tell", 0)]), False)

    def test_labels_of_a_tree_are_figures(self):
        for label in (MOST, -MOST, 0, -1):
            self.assertIs(tells([("a", [])], [label], [("tell", label)]), True)
        unused = [("ask", "a", 1, 2), ("tell", 0)]
        self.assertIs(tells([("a", [])], [0], unused + [("tell", MOST)]), True)
        for label in (MOST + 1, -MOST - 1, True, False, None, "0", [0], (0,)):
            self.assertIs(tells([("a", [])], [0], unused + [("tell", label)]), False)
        self.assertIs(tells([("a", [])], [0], [("tell", False)]), False)
        self.assertIs(tells([("a", [])], [1], [("tell", True)]), False)
        for node in (("tell",), ("tell", 0, 0), ["tell", 0], ("tells", 0), ("ask", 0), (["tell"], 0)):
            self.assertIs(tells([("a", [])], [0], [node]), False)

    def test_how_many_nodes(self):
        self.assertIs(tells(CHAIN, [5, 5, 5], []), False)
        for count in (0, 1, 28, 29):
            self.assertIs(tells(CHAIN, [5, 5, 5], comb(count)), True)
        # Each question leads to two nodes, so sixty nodes cannot all be led to once; sixty-one are too many.
        self.assertEqual(len(comb(29)), 59)
        self.assertIs(tells(CHAIN, [5, 5, 5], comb(29) + [("tell", 5)]), False)
        self.assertIs(tells(CHAIN, [5, 5, 5], comb(30)), False)
        self.assertIs(tells(CHAIN, [5, 5, 5], tuple(comb(29))), False)

    def test_anything(self):
        for thing in ANYTHING:
            self.assertIs(tells(CHAIN, [0, 10, 20], thing), False)
        met = {True: 0, False: 0}
        for web, labels in ((CHAIN, [0, 10, 20]), (CHAIN, [0, 0, 1]), (DIAMOND, [1, 2, 3, 1, 2, 3]), ([("a", [])], [1])):
            for thing in spoiled(tree_of(web, labels)):
                told = tells(web, labels, thing)
                self.assertIs(told, plain_tells(web, labels, thing), thing)
                met[told] += 1
        self.assertGreater(min(met.values()), 10)

    def test_the_askers_own(self):
        self.assert_untouched(tells, copy.deepcopy(CHAIN), [0, 10, 20], copy.deepcopy(TREE))


if __name__ == "__main__":
    unittest.main()
