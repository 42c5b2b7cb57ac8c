"""[25]: papers that no tree of a told depth or less tells the labels."""

import copy
import time
import unittest

from bestcalls.questions import depth_of, tree_of
from bestcalls.stubborn import is_stubborn, stubborn
from helper import (
    ANYTHING, DIAMOND, MOST, Refusals, loose_web, plain_are_lines, plain_split, some_labels, some_webs, spoiled)

CHAIN = [("a", []), ("b", ["a"]), ("c", ["b"])]
PAPER = [(["a", "b", "c"], 1), (["a", "b"], 0), (["b", "c"], 0)]


def plain_is_stubborn(web, labels, depth, paper):
    """[25] clause by clause, of anything."""
    if not plain_are_lines(web, paper) or paper[0][1] != depth:
        return False
    by_name = {name: label for (name, _), label in zip(web, labels)}
    for number, (kinds, left) in enumerate(paper):
        if not any(by_name[one] != by_name[other] for one in kinds for other in kinds):
            return False
        for asked in by_name:
            those, others = plain_split(web, kinds, asked)
            if left >= 1 and those and others:
                if not any(line in ((those, left - 1), (others, left - 1)) for line in paper[number + 1:]):
                    return False
    return True


class TestStubborn(unittest.TestCase, Refusals):

    def test_none(self):
        self.assertIsNone(stubborn([("a", [])], [5]))
        self.assertIsNone(stubborn(web=DIAMOND, labels=[-MOST] * 6))
        self.assertIsNone(stubborn(loose_web(10), [0] * 10))

    def test_papers(self):
        self.assertEqual(stubborn([("a", []), ("b", [])], [1, 2]), [(["a", "b"], 0)])
        self.assertEqual(stubborn(CHAIN, [1, 1, 2]), [(["a", "b", "c"], 0)])
        # Asked for b, c and b are left, asked for c, a and b: of each two the labels are unlike.
        self.assertEqual(sorted(stubborn(CHAIN, [1, 2, 1]), reverse=True), sorted(PAPER, reverse=True))
        self.assertEqual(stubborn(CHAIN, [1, 2, 1])[0], PAPER[0])

    def test_against_a_plain_reading(self):
        met = {}
        for number, web in enumerate(some_webs(90, most=6, seed=71)):
            for labels in some_labels(web, number):
                least = depth_of(tree_of(web, labels))
                paper = stubborn(web, labels)
                met[least] = met.get(least, 0) + 1
                if least == 0:
                    self.assertIsNone(paper)
                    continue
                self.assertTrue(plain_is_stubborn(web, labels, least - 1, paper), (web, labels, paper))
                for depth in range(least + 2):
                    self.assertIs(is_stubborn(web, labels, depth, paper), depth == least - 1)
        self.assertGreater(min(met[depth] for depth in range(4)), 20)

    def test_ten_kinds_and_the_time(self):
        ahead = time.process_time()
        star = [("a", [])] + [(name, ["a"]) for name, _ in loose_web(10)[1:]]
        for web, labels, least in ((loose_web(10), list(range(10)), 9), (star, [-number for number in range(10)], 9),
                                   (loose_web(10), [0, 1] * 5, 5), (loose_web(10), [MOST] + [-MOST] * 9, 1)):
            paper = stubborn(web, labels)
            self.assertEqual(paper[0], ([name for name, _ in web], least - 1))
            self.assertIs(is_stubborn(web, labels, least - 1, paper), True)
        self.assertLess(time.process_time() - ahead, 10)

    def test_the_askers_own(self):
        web, labels = copy.deepcopy(DIAMOND), [1, 2, 3, 1, 2, 3]
        paper = self.assert_untouched(stubborn, web, labels)
        self.assert_untouched(is_stubborn, web, labels, paper[0][1], paper)
        first = stubborn(CHAIN, [1, 2, 1])
        first[1][0].clear()
        self.assertEqual(first[0], PAPER[0])
        self.assertEqual(sorted(stubborn(CHAIN, [1, 2, 1])), sorted(PAPER))

    def test_a_web_changed_between_two_askings(self):
        web, labels = [("a", []), ("b", []), ("c", []), ("d", [])], [1, 2, 3, 4]
        paper = stubborn(web, labels)
        self.assertEqual(paper[0][1], 2)
        web[1][1].append("a")
        web[3][1].extend(["a", "c"])
        self.assertIs(is_stubborn(web, labels, 2, paper), False)
        self.assertEqual(stubborn(web, labels)[0][1], 1)
        labels[:] = [1, 1, 2, 2]
        self.assertEqual(stubborn(web, labels)[0][1], 0)


class TestIsStubborn(unittest.TestCase, Refusals):

    def test_is_stubborn(self):
        labels = [1, 2, 1]
        self.assertIs(is_stubborn(web=CHAIN, labels=labels, depth=1, paper=PAPER), True)
        self.assertIs(is_stubborn(CHAIN, labels, 1, [PAPER[0], PAPER[2], PAPER[1]]), True)
        self.assertIs(is_stubborn(CHAIN, labels, 0, [(["a", "b", "c"], 0)]), True)
        # More lines than are needed, and the same one twice, do no harm.
        self.assertIs(is_stubborn(CHAIN, labels, 1, PAPER + [PAPER[1], PAPER[1]]), True)
        self.assertIs(is_stubborn(CHAIN, labels, 1, PAPER + [(["a", "b", "c"], 0)]), True)
        self.assertIs(is_stubborn(CHAIN, labels, 1, [PAPER[0]] + PAPER), True)
        # Of two halves either will do: asked for c in the loose web, a and b or c alone are left.
        self.assertIs(is_stubborn(loose_web(3), [1, 2, 3], 1, [
            (["a", "b", "c"], 1), (["b", "c"], 0), (["a", "c"], 0), (["a", "b"], 0)]), True)

    def test_each_clause(self):
        labels = [1, 2, 1]
        whole, low, high = PAPER
        wrong = [
            [], [whole], [whole, low], [whole, high], [low, whole, high], [low, high, whole], [high, low],
            # A depth that is not less by just 1, or below 0.
            [whole, (["a", "b"], 1), high], [(["a", "b", "c"], 2), low, high], [whole, low, high, (["a", "b"], -1)],
            [(["a", "b", "c"], 0), low, high], [whole, (["a", "b"], 1), low, high, (["a", "c"], 0)],
            # Labels that are alike, or kinds that are none.
            [whole, low, high, (["a", "c"], 0)], [whole, low, high, (["b"], 0)], [whole, low, high, ([], 0)],
            # Other orders, names twice, and other names.
            [(["b", "a", "c"], 1), low, high], [whole, (["b", "a"], 0), high], [whole, low, high, (["a", "b", "b"], 0)],
            [whole, low, high, (["a", "b", "x"], 0)], [whole, low, high, (["a", "b", 1], 0)],
            # Other kinds of things.
            [whole, low, (("b", "c"), 0)], [whole, low, (["b", "c"], False)], [(["a", "b", "c"], True), low, high],
            [whole, low, (["b", "c"],)], [whole, low, (["b", "c"], 0, 0)], [whole, low, [["b", "c"], 0]],
            [whole, low, high, (["b", "c"], "0")], tuple(PAPER)]
        for paper in wrong:
            self.assertIs(is_stubborn(CHAIN, labels, 1, paper), False, paper)
            self.assertIs(plain_is_stubborn(CHAIN, labels, 1, paper), False, paper)

    def test_what_stands_behind_counts_alone(self):
        web, labels = loose_web(4), [1, 2, 3, 4]
        paper = stubborn(web, labels)
        self.assertEqual([depth for kinds, depth in paper], sorted([depth for kinds, depth in paper], reverse=True))
        for number in range(2, len(paper)):
            moved = [paper[0], paper[number]] + paper[1:number] + paper[number + 1:]
            self.assertIs(is_stubborn(web, labels, 2, moved), plain_is_stubborn(web, labels, 2, moved), moved)
        self.assertIs(is_stubborn(web, labels, 2, paper[:1] + paper[:0:-1]), False)

    def test_labels_all_alike(self):
        for depth in (0, 1, 2):
            self.assertIs(is_stubborn(CHAIN, [1, 1, 1], depth, [(["a", "b", "c"], depth)]), False)
        self.assertIs(is_stubborn([("a", [])], [1], 0, [(["a"], 0)]), False)

    def test_great_depths(self):
        self.assertIs(is_stubborn(CHAIN, [1, 2, 1], 10 ** 90, [(["a", "b", "c"], 10 ** 90)]), False)
        self.assertIs(is_stubborn(CHAIN, [1, 2, 1], 0, [(["a", "b", "c"], 0), (["a", "b", "c"], 10 ** 90)]), False)

    def test_anything(self):
        for depth in (0, 1, 2):
            for thing in ANYTHING:
                self.assertIs(is_stubborn(CHAIN, [1, 2, 1], depth, thing), False)
        met = {True: 0, False: 0}
        for web, labels in ((CHAIN, [1, 2, 1]), (CHAIN, [1, 1, 2]), (DIAMOND, [1, 2, 3, 1, 2, 3]), (loose_web(4), [1, 2, 3, 4])):
            paper = stubborn(web, labels)
            depth = paper[0][1]
            for thing in spoiled(paper):
                told = is_stubborn(web, labels, depth, thing)
                self.assertIs(told, plain_is_stubborn(web, labels, depth, thing), thing)
                met[told] += 1
        self.assertGreater(min(met.values()), 10)


if __name__ == "__main__":
    unittest.main()
