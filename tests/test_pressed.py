"""[20], [21]: all calls, all answers, kinds alike, kinds parted, and pressings."""

import copy
import itertools
import unittest

from bestcalls.errors import NoCall, NoKind
from bestcalls.pressed import all_answers, all_calls, alike, chosen, is_pressed, parted, pressed
from helper import ANYTHING, DIAMOND, Refusals, kind_names, loose_web, plain_answer, some_books, spoiled

BOOK = (DIAMOND, 2, [("r", ("a", "f")), ("s", ("b", "f")), ("t", ("c", "a"))])


def plain_calls(book):
    return list(itertools.product([name for name, _ in book[0]], repeat=book[1]))


def exchanged(call, place, kind):
    return tuple(kind if number == place else name for number, name in enumerate(call))


def plain_parted(book, place, kind, other):
    """The first call with the kind whose answer is another one with the other kind."""
    for call in plain_calls(book):
        if call[place] == kind and plain_answer(book, call) != plain_answer(book, exchanged(call, place, other)):
            return call
    return None


def plain_alike(book, place, kind, other):
    """Exchanging either for the other changes no answer."""
    for call in plain_calls(book):
        if call[place] in (kind, other):
            answers = {plain_answer(book, exchanged(call, place, name)) for name in (kind, other)}
            if len(answers) == 2:
                return False
    return True


def plain_pressed(book):
    """At each place the kinds that are alike are of one group; each answer is that of the groups' last kinds."""
    names = [name for name, _ in book[0]]
    groups = []
    for place in range(book[1]):
        row = []
        for number, name in enumerate(names):
            mates = [row[ahead] for ahead in range(number) if plain_alike(book, place, names[ahead], name)]
            row.append(mates[0] if mates else max(row, default=-1) + 1)
        groups.append(row)
    answers = []
    for numbers in itertools.product(*[range(max(row) + 1) for row in groups]):
        call = tuple([name for name, own in zip(names, row) if own == number][-1] for row, number in zip(groups, numbers))
        answers.append(plain_answer(book, call))
    return (groups, answers)


class TestCalls(unittest.TestCase, Refusals):

    def test_all_calls(self):
        self.assertEqual(all_calls((DIAMOND, 1, [])), [("a",), ("b",), ("c",), ("d",), ("e",), ("f",)])
        self.assertEqual(all_calls(([("b", []), ("a", ["b"])], 2, [])), [("b", "b"), ("b", "a"), ("a", "b"), ("a", "a")])
        self.assertEqual(all_calls(([("b", []), ("a", [])], 3, []))[:3], [("b", "b", "b"), ("b", "b", "a"), ("b", "a", "b")])
        self.assertEqual(all_calls(book=([("a", [])], 3, [])), [("a", "a", "a")])
        self.assertEqual(len(all_calls((DIAMOND, 3, []))), 216)

    def test_all_answers(self):
        book = ([("b", []), ("a", ["b"])], 2, [("r", ("b", "a")), ("s", ("a", "b"))])
        self.assertEqual(all_answers(book), [("none",), ("rule", "r"), ("rule", "s"), ("quarrel", ("r", "s"))])
        self.assertEqual(all_answers((DIAMOND, 3, [])), [("none",)] * 216)

    def test_against_a_plain_reading(self):
        for book in some_books(120, most_places=3, seed=41):
            self.assertEqual(all_calls(book), plain_calls(book))
            self.assertEqual(all_answers(book), [plain_answer(book, call) for call in plain_calls(book)])

    def test_the_askers_own(self):
        book = copy.deepcopy(BOOK)
        self.assert_untouched(all_calls, book)
        self.assert_untouched(all_answers, book)


class TestAlike(unittest.TestCase, Refusals):

    def test_alike_and_parted(self):
        cases = [
            (0, "a", "f", ("a", "f")), (0, "f", "a", ("f", "f")), (0, "c", "d", None), (0, "a", "b", ("a", "f")),
            (0, "b", "c", ("b", "a")), (0, "d", "e", ("d", "f")), (0, "a", "c", ("a", "a")), (0, "e", "e", None),
            (1, "a", "b", None), (1, "b", "e", None), (1, "e", "f", ("a", "e")), (1, "f", "a", ("a", "f"))]
        for place, kind, other, call in cases:
            self.assertEqual(parted(BOOK, place, kind, other), call)
            self.assertIs(alike(BOOK, place, kind, other), call is None)
            self.assertIs(alike(book=BOOK, place=place, kind=other, other=kind), call is None)

    def test_no_rules(self):
        for place in range(3):
            self.assertIs(alike((DIAMOND, 3, []), place, "a", "f"), True)
            self.assertIsNone(parted((DIAMOND, 3, []), place, "a", "f"))

    def test_against_a_plain_reading(self):
        met = {True: 0, False: 0}
        for book in some_books(150, most=4, most_places=3, most_rules=6, seed=42):
            names = [name for name, _ in book[0]]
            for place in range(book[1]):
                for kind, other in itertools.product(names, repeat=2):
                    told = parted(book, place, kind, other)
                    self.assertEqual(told, plain_parted(book, place, kind, other))
                    self.assertIs(alike(book, place, kind, other), plain_alike(book, place, kind, other))
                    met[told is None] += 1
        self.assertGreater(min(met.values()), 200)

    def test_no_kind(self):
        for asked in (alike, parted):
            for place in (0, 1):
                self.assert_refused(NoKind, "x", asked, BOOK, place, "x", "a")
                self.assert_refused(NoKind, "x", asked, BOOK, place, "a", "x")
                self.assert_refused(NoKind, "y", asked, BOOK, place, "y", "x")
                self.assert_refused(NoKind, "x", asked, BOOK, place, "x", "x")

    def test_the_askers_own(self):
        book = copy.deepcopy(BOOK)
        self.assert_untouched(alike, book, 0, "c", "d")
        self.assert_untouched(parted, book, 0, "b", "c")

    def test_a_book_changed_between_two_askings(self):
        book = copy.deepcopy(BOOK)
        self.assertIs(alike(book, 0, "c", "d"), True)
        book[2].append(("u", ("d", "d")))
        self.assertEqual(parted(book, 0, "c", "d"), ("c", "d"))
        self.assertIs(alike(book, 0, "c", "d"), False)
        self.assertEqual(parted(book, 1, "a", "e"), ("d", "a"))
        book[0][4][1].pop()
        self.assertIs(alike(book, 1, "a", "e"), True)


class TestPressed(unittest.TestCase, Refusals):

    def test_pressed(self):
        groups = [[0, 1, 2, 2, 3, 4], [0, 0, 0, 0, 0, 1]]
        rule_t = ("rule", "t")
        answers = [
            ("none",), ("rule", "r"), ("none",), ("rule", "s"), rule_t, ("rule", "r"), rule_t, ("rule", "s"), ("none",),
            ("none",)]
        self.assertEqual(pressed(BOOK), (groups, answers))
        self.assertIs(is_pressed(BOOK, (groups, answers)), True)

    def test_no_rules(self):
        for places in (1, 2, 3):
            self.assertEqual(pressed((DIAMOND, places, [])), ([[0] * 6] * places, [("none",)]))
        self.assertEqual(pressed(book=([("a", [])], 1, [("r", ("a",))])), ([[0]], [("rule", "r")]))

    def test_groups_at_each_place(self):
        # Each place has as many groups as its own kinds need.
        web = loose_web(4)
        rules = [("r", ("a", "a", "a")), ("s", ("b", "a", "a")), ("t", ("a", "a", "c"))]
        groups, answers = pressed((web, 3, rules))
        self.assertEqual(groups, [[0, 1, 2, 2], [0, 1, 1, 1], [0, 1, 2, 1]])
        self.assertEqual(len(answers), 3 * 2 * 3)
        self.assertEqual({number: answer for number, answer in enumerate(answers) if answer != ("none",)}, {
            0: ("rule", "r"), 2: ("rule", "t"), 6: ("rule", "s")})

    def test_fewer_groups_than_the_rules_part(self):
        # No answer tells apart what stands only on far, as near is told for all that has it.
        book = ([("a", []), ("b", ["a"]), ("c", ["b"])], 2, [("r", ("b", "a")), ("s", ("c", "a")), ("t", ("b", "b")),
                                                            ("u", ("c", "b"))])
        self.assertEqual(pressed(book)[0], [[0, 1, 2], [0, 1, 1]])
        web = [("a", []), ("b", []), ("c", ["a", "b"]), ("d", ["a", "b"])]
        self.assertEqual(pressed((web, 1, [("r", ("a",)), ("s", ("b",)), ("t", ("c",)), ("u", ("d",))]))[0], [[0, 1, 2, 3]])

    def test_twelve_rules(self):
        web = loose_web(10)
        rules = [(name, kinds) for name, kinds in zip(kind_names(12, 2), itertools.product("abc", "fghi"))]
        self.assertEqual(pressed((web, 2, rules)), plain_pressed((web, 2, rules)))
        self.assertEqual(pressed((web, 2, rules))[0], [[0, 1, 2] + [3] * 7, [0] * 5 + [1, 2, 3, 4, 0]])

    def test_against_a_plain_reading(self):
        for book in some_books(150, most=5, most_places=3, most_rules=8, seed=43):
            if book[1] == 3 and len(book[0]) > 3:
                continue
            told = pressed(book)
            self.assertEqual(told, plain_pressed(book))
            self.assertIs(is_pressed(book, told), True)
            for call in plain_calls(book):
                self.assertEqual(chosen(book[0], told, call), plain_answer(book, call))

    def test_chosen(self):
        web = loose_web(3)
        pressing = ([[0, 1, 0], [0, 0, 1]], [("none",), ("rule", "a"), ("rule", "b"), ("quarrel", ("a", "b"))])
        self.assertEqual(chosen(web, pressing, ("a", "a")), ("none",))
        self.assertEqual(chosen(web, pressing, ("c", "c")), ("rule", "a"))
        self.assertEqual(chosen(web, pressing, ("b", "b")), ("rule", "b"))
        self.assertEqual(chosen(web=web, pressing=pressing, call=("b", "c")), ("quarrel", ("a", "b")))
        uneven = ([[0, 1, 2], [0, 0, 0], [0, 1, 0]], [("rule", name) for name in "abcdef"])
        self.assertEqual(chosen(web, uneven, ("c", "a", "b")), ("rule", "f"))
        self.assertEqual(chosen(web, uneven, ("b", "c", "c")), ("rule", "c"))

    def test_chosen_is_refused(self):
        for book in ((DIAMOND, 1, []), BOOK, (DIAMOND, 3, [])):
            pressing, places = pressed(book), book[1]
            for count in (0, 1, 2, 3, 4):
                if count != places:
                    self.assert_refused(NoCall, None, chosen, DIAMOND, pressing, ("a",) * count)
                    self.assert_refused(NoCall, None, chosen, DIAMOND, pressing, ("x",) * count)
            self.assert_refused(NoKind, "x", chosen, DIAMOND, pressing, ("a",) * (places - 1) + ("x",))
            self.assert_refused(NoKind, "y", chosen, DIAMOND, pressing, ("y",) + ("x",) * (places - 1))

    def test_anything(self):
        books = [BOOK, (DIAMOND, 1, []), ([("a", [])], 1, []), ([("a", []), ("b", [])], 1, [("r", ("b",))])]
        for book in books:
            right = plain_pressed(book)
            for thing in ANYTHING:
                self.assertIs(is_pressed(book, thing), False)
            for thing in spoiled(right):
                self.assertIs(is_pressed(book, thing), repr(thing) == repr(right), thing)

    def test_truths_are_no_numbers(self):
        book = ([("a", []), ("b", [])], 1, [("r", ("b",))])
        answers = [("none",), ("rule", "r")]
        self.assertIs(is_pressed(book, ([[0, 1]], answers)), True)
        for groups in ([[False, True]], [[0, True]], [[False, 1]], [(0, 1)], ([0, 1],), [[0, 1], []]):
            self.assertIs(is_pressed(book, (groups, answers)), False)

    def test_other_right_pressings(self):
        book = ([("a", []), ("b", []), ("c", [])], 1, [("r", ("b",))])
        none, rule = ("none",), ("rule", "r")
        self.assertIs(is_pressed(book, ([[0, 1, 0]], [none, rule])), True)
        for other in (([[1, 0, 1]], [rule, none]), ([[0, 1, 2]], [none, rule, none]), ([[0, 2, 0]], [none, none, rule]),
                      ([[0, 1, 0]], [none, rule, none]), ([[0, 1, 0]], [rule, none]), ([[0, 1, 0]], (none, rule)),
                      [[[0, 1, 0]], [none, rule]]):
            self.assertIs(is_pressed(book, other), False)

    def test_the_askers_own(self):
        book = copy.deepcopy(BOOK)
        pressing = self.assert_untouched(pressed, book)
        self.assert_untouched(is_pressed, book, pressing)
        self.assert_untouched(chosen, book[0], pressing, ("a", "f"))
        groups, answers = pressed((DIAMOND, 3, []))
        groups[0].append(1)
        self.assertEqual(groups[1:], [[0] * 6] * 2)

    def test_a_book_changed_between_two_askings(self):
        book = ([("a", []), ("b", [])], 1, [("r", ("a",))])
        self.assertEqual(pressed(book)[0], [[0, 1]])
        book[0][1][1].append("a")
        self.assertEqual(pressed(book), ([[0, 0]], [("rule", "r")]))
        self.assertIs(is_pressed(book, ([[0, 0]], [("rule", "r")])), True)
        book[2].append(("s", ("b",)))
        self.assertIs(is_pressed(book, ([[0, 0]], [("rule", "r")])), False)


if __name__ == "__main__":
    unittest.main()
