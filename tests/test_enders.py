"""[19]: enders."""

import copy
import itertools
import unittest

from bestcalls.enders import enders, ends
from helper import (
    ANYTHING, DIAMOND, Refusals, kind_names, loose_web, plain_answer, plain_fits, plain_nearer, plain_quarrel,
    plain_stands, some_books, spoiled)

# Two kinds below both a and b, and one below these.
WEB = [("a", []), ("b", []), ("c", ["a", "b"]), ("d", ["b", "a"]), ("e", ["c", "d"])]
BOOK = (WEB, 1, [("r", ("a",)), ("s", ("b",))])


def with_rules(book, tuples):
    """The book with a rule for each of the tuples of kinds."""
    return (book[0], book[1], book[2] + list(zip(kind_names(len(tuples), 3), tuples)))


def tuples_of(book):
    return list(itertools.product([name for name, _ in book[0]], repeat=book[1]))


def plain_free(book):
    """Whether no call of names quarrels."""
    return not any(plain_answer(book, call)[0] == "quarrel" for call in tuples_of(book))


def plain_enders(book):
    """The calls of the quarrels told, one after the other, each put in as a rule."""
    told = []
    while plain_quarrel(with_rules(book, told), []) is not None:
        told.append(plain_quarrel(with_rules(book, told), [])[0])
    return told


def plain_ends(book, thing):
    """Whether something ends so, word by word."""
    web, places, rules = book
    every = tuples_of(book)
    if type(thing) is not list:
        return False
    for number, kinds in enumerate(thing):
        if type(kinds) is not tuple or kinds not in every:
            return False
        ahead = [others for _, others in rules] + thing[:number]
        if kinds in ahead:
            return False
        fit = [others for others in ahead if plain_fits(web, others, kinds)]
        if len([one for one in fit if not any(plain_nearer(web, other, one) for other in fit)]) < 2:
            return False
        for other in every:
            if other != kinds and all(plain_stands(web, low, high) for low, high in zip(kinds, other)):
                if all(plain_stands(web, low, high) for one in fit for low, high in zip(other, one)):
                    return False
    return plain_free(with_rules(book, thing))


class TestEnders(unittest.TestCase, Refusals):

    def test_free_books_have_none(self):
        free = [
            (DIAMOND, 1, []), (DIAMOND, 3, []), (DIAMOND, 2, [("r", ("a", "f"))]), (loose_web(2), 1, BOOK[2]),
            (WEB, 1, BOOK[2] + [("t", ("c",)), ("u", ("d",)), ("v", ("e",))])]
        for book in free:
            self.assertEqual(enders(book), [])
            self.assertIs(ends(book, []), True)
            for thing in ((), [("a",) * book[1]], [()], [[]], None, {}):
                self.assertIs(ends(book, thing), False)

    def test_one_calls_for_the_next(self):
        self.assertEqual(enders(BOOK), [("c",), ("d",), ("e",)])
        self.assertIs(ends(BOOK, [("c",), ("d",), ("e",)]), True)

    def test_in_another_order(self):
        let_by = [list(order) for order in itertools.permutations([("c",), ("d",), ("e",)]) if ends(BOOK, list(order))]
        self.assertEqual(let_by, [[("c",), ("d",), ("e",)], [("d",), ("c",), ("e",)]])

    def test_the_least_call_is_the_next_one(self):
        web = [("a", []), ("b", []), ("c", ["a"]), ("d", ["c", "b"]), ("e", ["a", "b"])]
        self.assertEqual(enders((web, 1, BOOK[2])), [("e",), ("d",)])
        self.assertIs(ends((web, 1, BOOK[2]), [("d",), ("e",)]), True)

    def test_two_and_three_places(self):
        book = (DIAMOND, 2, [("r", ("a", "b")), ("s", ("b", "a")), ("t", ("a", "c"))])
        self.assertEqual(enders(book), [("b", "b"), ("b", "c"), ("a", "e"), ("b", "e")])
        self.assertIs(ends(book, enders(book)), True)
        web = [("a", []), ("b", ["a"]), ("c", ["a"]), ("d", ["b", "c"])]
        rules = [("r", ("b", "a", "a")), ("s", ("a", "a", "c"))]
        self.assertEqual(enders((web, 3, rules)), [("b", "a", "c")])
        self.assertEqual(enders((web, 3, rules + [("t", ("a", "c", "a"))])), [
            ("a", "c", "c"), ("b", "a", "c"), ("b", "c", "a"), ("b", "c", "c")])

    def test_many_more_than_twelve_rules(self):
        web = [("a", []), ("b", []), ("c", ["a", "b"]), ("d", ["a", "b"]), ("e", ["c", "d"]), ("f", ["c", "d"])]
        rules = list(zip(kind_names(12, 2), itertools.product("ab", repeat=3)))
        rules += [("xa", ("c", "c", "c")), ("xb", ("d", "d", "d")), ("xc", ("e", "a", "f")), ("xd", ("a", "f", "b"))]
        book = (web, 3, rules)
        told = enders(book)
        self.assertEqual(len(rules), 12)
        self.assertEqual(len(told), 6 ** 3 - 12)
        self.assertIs(ends(book, told), True)
        for number in (0, 100, len(told) - 1):
            self.assertIs(ends(book, told[:number] + told[number + 1:]), False)
        self.assertTrue(plain_free(with_rules(book, told)))

    def test_twelve_rules_against_a_plain_reading(self):
        kinds = [("a", "b"), ("b", "a"), ("c", "a"), ("a", "d"), ("e", "b"), ("f", "f"), ("a", "f"), ("f", "c"),
                 ("d", "e"), ("b", "b"), ("f", "e"), ("d", "c")]
        book = (DIAMOND, 2, list(zip(kind_names(12, 2), kinds)))
        told = enders(book)
        self.assertEqual(told, plain_enders(book))
        self.assertGreater(len(told), 2)
        self.assertIs(ends(book, told), True)

    def test_against_a_plain_reading(self):
        met = {0: 0, 1: 0, 2: 0, 3: 0}
        for book in some_books(240, most=6, most_places=3, most_rules=11, seed=12):
            if book[1] == 3 and len(book[0]) > 3:
                continue
            told = enders(book)
            self.assertEqual(told, plain_enders(book), book)
            self.assertTrue(plain_free(with_rules(book, told)))
            self.assertIs(ends(book, told), True)
            self.assertTrue(plain_ends(book, told))
            for other in (told[1:], told[:-1], told[::-1], told + told[:1], told[1:] + told[:1]):
                self.assertIs(ends(book, other), plain_ends(book, other), (book, other))
            met[min(len(told), 3)] += 1
        self.assertGreater(min(met.values()), 4, met)

    def test_every_ending_has_all_enders(self):
        books = some_books(120, most=5, most_places=1, most_rules=4, seed=13)
        books += [book for book in some_books(60, most=3, most_places=2, most_rules=4, seed=14) if book[1] == 2]
        books += [(WEB, 1, BOOK[2]), (WEB[:3], 2, [("r", ("a", "b")), ("s", ("b", "a"))])]
        for book in books:
            told = enders(book)
            open_ones = [kinds for kinds in tuples_of(book) if kinds not in [others for _, others in book[2]]]
            for size in range(len(open_ones) + 1):
                for put_in in itertools.combinations(open_ones, size):
                    if not set(told) <= set(put_in):
                        self.assertFalse(plain_free(with_rules(book, put_in)), (book, put_in))

    def test_every_list_that_ends_has_just_the_enders(self):
        books = [BOOK, (WEB[:3], 2, [("r", ("a", "b")), ("s", ("b", "a"))]), (WEB[:4], 1, BOOK[2]),
                 (DIAMOND, 1, [("r", ("b",)), ("s", ("c",)), ("t", ("f",))])]
        for book in books + some_books(30, most=4, most_places=1, most_rules=3, seed=15):
            told = sorted(enders(book))
            let_by = 0
            for size in range(len(told) + 2):
                for thing in itertools.permutations(tuples_of(book), size):
                    answer = ends(book, list(thing))
                    self.assertIs(answer, plain_ends(book, list(thing)), (book, thing))
                    if answer:
                        self.assertEqual(sorted(thing), told)
                        let_by += 1
            self.assertGreaterEqual(let_by, 1)

    def test_not_where_something_between_would_do(self):
        # At e a and b quarrel, but c, on which e stands, would end it already.
        self.assertIs(ends(BOOK, [("e",), ("c",), ("d",)]), False)
        chain = (WEB[:3] + [("e", ["c"])], 1, BOOK[2])
        self.assertEqual(enders(chain), [("c",)])
        self.assertIs(ends(chain, [("c",)]), True)
        for thing in ([("e",)], [("e",), ("c",)], [("c",), ("e",)], [("c",), ("c",)]):
            self.assertIs(ends(chain, thing), False)
        both = (WEB[:3] + [("e", ["c"])], 2, [("r", ("a", "a")), ("s", ("b", "b"))])
        self.assertEqual(enders(both), [("c", "c")])
        for thing in ([("c", "e")], [("e", "c")], [("c", "e"), ("e", "c"), ("c", "c")]):
            self.assertIs(ends(both, thing), False)

    def test_anything(self):
        right = [("c",), ("d",), ("e",)]
        for thing in list(ANYTHING) + list(spoiled(right)):
            self.assertIs(ends(BOOK, thing), plain_ends(BOOK, thing), thing)
        book = (WEB[:3], 2, [("r", ("a", "b")), ("s", ("b", "a"))])
        for thing in list(ANYTHING) + list(spoiled(enders(book))):
            self.assertIs(ends(book, thing), plain_ends(book, thing), thing)
        for wrong in ([["c"], ("d",), ("e",)], [("c",), ("d",), "e"], [("c",), ("d",), ("x",)], [("c",), ("d",), ("e", "e")],
                      [("c",), ("d",), ("e",), ("a",)], [("a",)], [(("a", "b"),)], tuple(right), ["c", "d", "e"]):
            self.assertIs(ends(BOOK, wrong), False)

    def test_the_askers_own(self):
        book = copy.deepcopy(BOOK)
        self.assert_untouched(enders, book)
        self.assert_untouched(ends, book, [("c",), ("d",), ("e",)])

    def test_a_book_changed_between_two_askings(self):
        book = copy.deepcopy(BOOK)
        self.assertEqual(enders(book), [("c",), ("d",), ("e",)])
        book[0][3][1].pop()
        self.assertEqual(enders(book), [("c",)])
        self.assertIs(ends(book, [("c",), ("d",), ("e",)]), False)
        book[2].append(("t", ("c",)))
        self.assertEqual(enders(book), [])
        self.assertIs(ends(book, []), True)


if __name__ == "__main__":
    unittest.main()
