"""What the tests share: sample webs and books, wrong things, and plain readings of the document."""

import copy
import itertools
import random


def nested(depth, wrap, inner):
    """Something nested as deep as told."""
    for _ in range(depth):
        inner = wrap(inner)
    return inner


# All that [2] allows where something is told of anything.
ANYTHING = [
    None, True, False, 0, 1, -1, 2, 3, 10 ** 99, -(10 ** 99), 10 ** 100 - 1,
    "", " ", "a", "b", "zz", "A", "a b", "a1", "abcdefghi", "\t\n", "~" * 2000, "a" * 2000,
    [], (), {}, [None], (None,), ("a",), ["a"], ("a", "a"), ["a", "a"], ("a", []), [("a", [])], [("a", ())],
    {"a": []}, {"a": ["b", {"c": (1,)}]}, {0: "a", 1: "b"}, [[]], [()], [{}], ([],), ({},), ((),),
    ("rule", "a"), ("quarrel", ("a", "b")), ("none",), ("near",), ("out", 0), ("far", "a"),
    nested(14, lambda inner: [inner], "a"), nested(14, lambda inner: (inner,), "a"),
    nested(14, lambda inner: {"a": inner}, "a"), nested(4, lambda inner: [({"a": inner},)], None),
]


def spoiled(thing):
    """The thing with one of its parts, or the whole, put for something else, dropped or doubled."""
    for other in ANYTHING:
        yield copy.deepcopy(other)
    if isinstance(thing, (list, tuple)):
        make = list if isinstance(thing, list) else tuple
        yield tuple(thing) if make is list else list(thing)
        for number, part in enumerate(thing):
            yield make(list(thing[:number]) + list(thing[number + 1:]))
            yield make(list(thing[:number + 1]) + list(thing[number:]))
            for worse in spoiled(part):
                yield make(list(thing[:number]) + [worse] + list(thing[number + 1:]))


def kind_names(count, size=1):
    """As many unlike names as told, each of so many letters."""
    return ["".join(letters) for letters in
            itertools.islice(itertools.product("abcdefghijklmnopqrstuvwxyz", repeat=size), count)]


def loose_web(count):
    """A web of kinds without elders."""
    return [(name, []) for name in kind_names(count)]


# Two ways from e up to a, beside f, which stands alone.
DIAMOND = [("a", []), ("b", ["a"]), ("c", ["a"]), ("d", ["c"]), ("e", ["b", "d"]), ("f", [])]


def some_webs(count, most=6, seed=1):
    """Webs of up to so many kinds, the same ones each time."""
    chance = random.Random(seed)
    webs = []
    for number in range(count):
        names = kind_names(most)
        chance.shuffle(names)
        web = []
        for name in names[:1 + number % most]:
            ahead = [other for other, _ in web]
            web.append((name, chance.sample(ahead, chance.randint(0, min(4, len(ahead), 2)))))
        webs.append(web)
    return webs


def some_books(count, most=5, most_places=2, most_rules=6, seed=2):
    """Books over such webs, the same ones each time."""
    chance = random.Random(seed)
    books = []
    for number, web in enumerate(some_webs(count, most, seed)):
        places = 1 + number % most_places
        every = list(itertools.product([name for name, _ in web], repeat=places))
        kinds = chance.sample(every, min(len(every), chance.randint(0, most_rules)))
        names = kind_names(len(kinds), 2)
        chance.shuffle(names)
        books.append((web, places, list(zip(names, kinds))))
    return books


# Plain readings of the document, word by word and without regard to speed.

def plain_stands(web, kind, other):
    """A kind stands on itself, on its elders, and on all that these stand on."""
    if kind == other:
        return True
    return any(plain_stands(web, elder, other) for elder in dict(web)[kind])


def plain_arm_stands(web, arm, other):
    """An arm stands on all that its names stand on."""
    names = arm if isinstance(arm, tuple) else (arm,)
    return any(plain_stands(web, name, other) for name in names)


def plain_above(web, arm):
    return [name for name, _ in web if plain_arm_stands(web, arm, name)]


def plain_fits(web, kinds, call):
    return all(plain_arm_stands(web, arm, kind) for arm, kind in zip(call, kinds))


def plain_nearer(web, one, other):
    return one != other and all(plain_stands(web, low, high) for low, high in zip(one, other))


def plain_fitting(book, call):
    web, _, rules = book
    return [name for name, kinds in rules if plain_fits(web, kinds, call)]


def plain_nearest_of(book, names):
    """Of the rules of these names those than which none of them is nearer."""
    kinds = dict(book[2])
    return [name for name in names
            if not any(plain_nearer(book[0], kinds[other], kinds[name]) for other in names)]


def plain_answer_of(book, names):
    """The answer among the rules of these names."""
    near = plain_nearest_of(book, names)
    if len(near) == 1:
        return ("rule", near[0])
    return ("quarrel", tuple(near)) if near else ("none",)


def plain_answer(book, call):
    return plain_answer_of(book, plain_fitting(book, call))


def plain_to_come(web, sort):
    """All kinds to come of the sort."""
    names = [name for name, _ in web]
    told = []
    for size in range(2, len(names) + 1):
        for arm in itertools.combinations(names, size):
            apart = not any(plain_stands(web, one, other) for one, other in itertools.permutations(arm, 2))
            if apart and any(set(arm) <= set(bundle) for bundle in sort):
                told.append(arm)
    return told


def some_sorts(web, seed):
    """Sorts of the web without bundles, with one and with two, the same ones each time."""
    chance = random.Random(seed)
    names = [name for name, _ in web]
    sorts = [[]]
    for bundles in (1, 2):
        sorts.append([chance.sample(names, min(len(names), chance.randint(2, 5))) for _ in range(bundles)])
    return sorts


def some_calls(book, count, seed):
    """Calls of the book, of names and of other arms, the same ones each time."""
    chance = random.Random(seed)
    names = [name for name, _ in book[0]]
    arms = names * 2 + [(name,) for name in names]
    arms += [tuple(chance.sample(names, chance.randint(1, min(3, len(names))))) for _ in names]
    return [tuple(chance.choice(arms) for _ in range(book[1])) for _ in range(count)]


class Refusals:
    """For test cases: how a refusal is looked at."""

    def assert_refused(self, kind, at, deed, *things):
        """The deed is refused with just this class and this `at`, and leaves all things as they were."""
        ahead = copy.deepcopy(things)
        with self.assertRaises(kind) as caught:
            deed(*things)
        self.assertIs(caught.exception.__class__, kind)
        self.assertEqual(caught.exception.at, at)
        self.assertIs(caught.exception.at.__class__, at.__class__)
        self.assertEqual(things, ahead)

    def assert_untouched(self, deed, *things):
        """The deed leaves all things as they were, and what it tells is the asker's own; told is what it tells."""
        ahead = copy.deepcopy(things)
        told = deed(*things)
        kept = copy.deepcopy(told)
        self.assertEqual(things, ahead)
        ruin(told)
        self.assertEqual(things, ahead)
        again = deed(*things)
        self.assertEqual(again, kept)
        return kept


def ruin(told):
    """Change each list within what was told."""
    if isinstance(told, (list, tuple)):
        for part in told:
            ruin(part)
    if isinstance(told, list):
        told.append("ruined")
        told.reverse()
