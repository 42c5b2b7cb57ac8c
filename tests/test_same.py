"""What several modules share."""

import itertools
import unittest

from bestcalls.same import cell_at, firsts_of, numbered, products, same
from helper import ANYTHING


def plain_same(one, other):
    """The same through and through, by the classes too."""
    if type(one) is not type(other):
        return False
    if isinstance(one, (list, tuple)):
        return len(one) == len(other) and all(plain_same(part, mate) for part, mate in zip(one, other))
    return one == other


class TestSame(unittest.TestCase):

    def test_products(self):
        self.assertEqual(products([]), [()])
        self.assertEqual(products([[1, 2], []]), [])
        rows = [["a", "b"], ["c"], ["d", "e", "f"]]
        self.assertEqual(products(rows), list(itertools.product(*rows)))

    def test_numbered_and_firsts(self):
        self.assertEqual(numbered([]), [])
        self.assertEqual(numbered(["b", "a", "b", "c", "a"]), [0, 1, 0, 2, 1])
        self.assertEqual(firsts_of(["p", "q", "r", "s"], [0, 1, 0, 2]), ["p", "q", "s"])

    def test_cell_at(self):
        groups = [[0, 1, 0], [0, 1, 2], [0, 0, 0]]
        cells = list(range(6))
        told = [cell_at(["a", "b", "c"], groups, cells, kinds) for kinds in itertools.product("ab", "abc", "c")]
        self.assertEqual(told, cells)
        self.assertEqual(cell_at(["a", "b", "c"], groups, cells, ("c", "c", "a")), 2)

    def test_same(self):
        things = ANYTHING + [[0, 1], [False, True], [0, True], (0, 1), ([0], [1]), ([0], [True]), [[0]], [[False]]]
        for one, other in itertools.product(things, repeat=2):
            if not isinstance(one, dict) and not isinstance(other, dict):
                self.assertIs(same(one, other), plain_same(one, other), (one, other))


if __name__ == "__main__":
    unittest.main()
