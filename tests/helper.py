"""What the tests share: sample webs and books, wrong things, and plain readings of the document."""

import copy
import itertools
import random

MOST = 10 ** 30 - 1


def nested(depth, wrap, inner):
    """Something nested as deep as told."""
    for _ in range(depth):
        inner = wrap(inner)
    return inner


# All that [2] allows where something is told of anything.
ANYTHING = [
    None, True, False, 0, 1, -1, 2, 3, 10 ** 99, -(10 ** 99), 10 ** 100 - 1,
    "", " ", "a", "b", "zz", "A", "a b", "a1", "abcdefghi", "\t\n", "~" * 2000, "a" * 2000,
    [], (), {}, [None], (None,), ("a",), ["a"], ("a", "a"), ["a", "a"], ("a", []), [("a", [])], [("a", ())],
    {"a": []}, {"a": ["b", {"c": (1,)}]}, {0: "a", 1: "b"}, [[]], [()], [{}], ([],), ({},), ((),),
    ("rule", "a"), ("quarrel", ("a", "b")), ("none",), ("near",), ("out", 0), ("far", "a"),
    nested(14, lambda inner: [inner], "a"), nested(14, lambda inner: (inner,), "a"),
    nested(14, lambda inner: {"a": inner}, "a"), nested(4, lambda inner: [({"a": inner},)], None),
]


def spoiled(thing):
    """The thing with one of its parts, or the whole, put for something else, dropped or doubled."""
    for other in ANYTHING:
        yield copy.deepcopy(other)
    if isinstance(thing, (list, tuple)):
        make = list if isinstance(thing, list) else tuple
        yield tuple(thing) if make is list else list(thing)
        for number, part in enumerate(thing):
            yield make(list(thing[:number]) + list(thing[number + 1:]))
            yield make(list(thing[:number + 1]) + list(thing[number:]))
            for worse in spoiled(part):
                yield make(list(thing[:number]) + [worse] + list(thing[number + 1:]))


def kind_names(count, size=1):
    """As many unlike names as told, each of so many letters."""
    return ["".join(letters) for letters in
            itertools.islice(itertools.product("abcdefghijklmnopqrstuvwxyz", repeat=size), count)]


def loose_web(count):
    """A web of kinds without elders."""
    return [(name, []) for name in kind_names(count)]


# Two ways from e up to a, beside f, which stands alone.
DIAMOND = [("a", []), ("b", ["a"]), ("c", ["a"]), ("d", ["c"]), ("e", ["b", "d"]), ("f", [])]


def some_webs(count, most=6, seed=1):
    """Webs of up to so many kinds, the same ones each time."""
    chance = random.Random(seed)
    webs = []
    for number in range(count):
        names = kind_names(most)
        chance.shuffle(names)
        web = []
        for name in names[:1 + number % most]:
            ahead = [other for other, _ in web]
            web.append((name, chance.sample(ahead, chance.randint(0, min(4, len(ahead), 2)))))
        webs.append(web)
    return webs


def some_books(count, most=5, most_places=2, most_rules=6, seed=2):
    """Books over such webs, the same ones each time."""
    chance = random.Random(seed)
    books = []
    for number, web in enumerate(some_webs(count, most, seed)):
        places = 1 + number % most_places
        every = list(itertools.product([name for name, _ in web], repeat=places))
        kinds = chance.sample(every, min(len(every), chance.randint(0, most_rules)))
        names = kind_names(len(kinds), 2)
        chance.shuffle(names)
        books.append((web, places, list(zip(names, kinds))))
    return books


def some_pick(chance, names, places):
    if chance.random() < 0.6:
        return ("own", chance.randrange(places))
    return ("new", chance.choice(names), chance.randint(-9, 9))


def some_step(chance, names, places, deeds, number, back):
    """A step for a rule of the deed of this number; how often it calls a deed that is not behind it hangs on back."""
    behind = deeds[number + 1:]
    calls = deeds if chance.random() < back else behind
    word = chance.choice(["say", "tell", "call", "call", "onward"] if calls else ["say", "tell", "onward"])
    if word == "say":
        return ("say", chance.randint(-99, 99))
    if word == "tell":
        return ("tell", chance.randrange(places))
    if word == "onward":
        return ("onward",)
    name, size = chance.choice(calls)
    return ("call", name, [some_pick(chance, names, places) for _ in range(size)])


def some_programs(count, most=4, most_rules=6, most_steps=3, back=0.15, seed=3):
    """Programs with up to four deeds, the same ones each time."""
    chance = random.Random(seed)
    programs = []
    for number, web in enumerate(some_webs(count, most, seed)):
        names = [name for name, _ in web]
        if chance.random() < 0.7:
            # All kinds stand on the first one, so that more rules fit.
            web = [(name, elders or names[:1] if name != names[0] else []) for name, elders in web]
        sizes = [(name, chance.randint(1, 3)) for name in chance.sample(["do", "make", "a", "go"], number % 5)]
        deeds = []
        for place, (name, places) in enumerate(sizes):
            every = list(itertools.product(names, repeat=places))
            kinds = chance.sample(every, min(len(every), chance.randint(0, most_rules)))
            # A rule for the first kinds of all fits most calls, so that not every run ends at once.
            if (names[0],) * places not in kinds and chance.random() < 0.8:
                kinds = [(names[0],) * places] + kinds[:most_rules - 1]
            rules = []
            for rule, some in zip(kind_names(len(kinds), 2), kinds):
                steps = [some_step(chance, names, places, sizes, place, back)
                         for _ in range(chance.randint(0, most_steps))]
                rules.append((rule, some, steps))
            deeds.append((name, places, rules))
        programs.append((web, deeds))
    return programs


def some_things(program, places, count, seed):
    """Lists of things for so many places, the same ones each time."""
    chance = random.Random(seed)
    names = [name for name, _ in program[0]]
    return [[(chance.choice(names), chance.randint(-999, 999)) for _ in range(places)] for _ in range(count)]


# Plain readings of the document, word by word and without regard to speed.

def plain_stands(web, kind, other):
    """A kind stands on itself, on its elders, and on all that these stand on."""
    if kind == other:
        return True
    return any(plain_stands(web, elder, other) for elder in dict(web)[kind])


def plain_arm_stands(web, arm, other):
    """An arm stands on all that its names stand on."""
    names = arm if isinstance(arm, tuple) else (arm,)
    return any(plain_stands(web, name, other) for name in names)


def plain_above(web, arm):
    return [name for name, _ in web if plain_arm_stands(web, arm, name)]


def plain_fits(web, kinds, call):
    return all(plain_arm_stands(web, arm, kind) for arm, kind in zip(call, kinds))


def plain_nearer(web, one, other):
    return one != other and all(plain_stands(web, low, high) for low, high in zip(one, other))


def plain_fitting(book, call):
    web, _, rules = book
    return [name for name, kinds in rules if plain_fits(web, kinds, call)]


def plain_nearest_of(book, names):
    """Of the rules of these names those than which none of them is nearer."""
    kinds = dict(book[2])
    return [name for name in names
            if not any(plain_nearer(book[0], kinds[other], kinds[name]) for other in names)]


def plain_answer_of(book, names):
    """The answer among the rules of these names."""
    near = plain_nearest_of(book, names)
    if len(near) == 1:
        return ("rule", near[0])
    return ("quarrel", tuple(near)) if near else ("none",)


def plain_answer(book, call):
    return plain_answer_of(book, plain_fitting(book, call))


def plain_to_come(web, sort):
    """All kinds to come of the sort."""
    names = [name for name, _ in web]
    told = []
    for size in range(2, len(names) + 1):
        for arm in itertools.combinations(names, size):
            apart = not any(plain_stands(web, one, other) for one, other in itertools.permutations(arm, 2))
            if apart and any(set(arm) <= set(bundle) for bundle in sort):
                told.append(arm)
    return told


def plain_meets(web, sort, kind, other):
    """The meets as the document says them, sought among all arms."""
    names = [name for name, _ in web]
    arms = [arm for arm in names + plain_to_come(web, sort)
            if plain_arm_stands(web, arm, kind) and plain_arm_stands(web, arm, other)]
    told = []
    for arm in arms:
        if not any(one != arm and set(plain_above(web, one)) <= set(plain_above(web, arm)) for one in arms):
            told.append(arm)
    rank = {name: number for number, name in enumerate(names)}
    single = sorted([arm for arm in told if isinstance(arm, str)], key=rank.get)
    return single + sorted([arm for arm in told if isinstance(arm, tuple)], key=lambda arm: [rank[name] for name in arm])


def plain_quarrel(book, sort):
    """A walk over all calls of the sort, and of those that quarrel the least as the document says it."""
    web, places, rules = book
    names = [name for name, _ in web]
    rank = {name: number for number, name in enumerate(names)}
    arms = names + sorted(plain_to_come(web, sort), key=lambda arm: [rank[name] for name in arm])
    over = {arm: set(plain_above(web, arm)) for arm in arms}
    nearer = {(one, other) for one in rules for other in rules if plain_nearer(web, one[1], other[1])}
    found = []
    for call in itertools.product(arms, repeat=places):
        fit = [rule for rule in rules if all(kind in over[arm] for kind, arm in zip(rule[1], call))]
        near = [rule for rule in fit if not any((one, rule) in nearer for one in fit)]
        if len(near) > 1:
            weight = sum(len(over[arm]) for arm in call)
            to_come = sum(isinstance(arm, tuple) for arm in call)
            found.append((weight, to_come, [arms.index(arm) for arm in call], call, tuple(name for name, _ in near)))
    return min(found)[3:] if found else None


class PlainRun:
    """[29] to [31], word by word: the runs that last stand in a list, and steps are counted as they begin."""

    def __init__(self, program):
        self.web, deeds = program
        self.rules = {name: rules for name, _, rules in deeds}
        self.places = {name: places for name, places, _ in deeds}
        self.met, self.lasting, self.begun = [], [], 0

    def book(self, deed):
        return (self.web, self.places[deed], [(name, kinds) for name, kinds, _ in self.rules[deed]])

    def begin(self, deed, things, answer):
        kinds = tuple(kind for kind, _ in things)
        if answer[0] == "none":
            raise PlainRefusal("NoFit", (deed, kinds))
        if answer[0] == "quarrel":
            raise PlainRefusal("Quarrel", (deed, kinds, answer[1]))
        if len(self.lasting) == 40:
            raise PlainRefusal("TooDeep", None)
        self.lasting.append((deed, answer[1]))
        self.met.append((deed, answer[1]))
        steps = [steps for name, _, steps in self.rules[deed] if name == answer[1]][0]
        total = sum([self.step(deed, things, answer[1], step) for step in steps])
        self.lasting.pop()
        return total

    def step(self, deed, things, rule, step):
        if self.begun == 400:
            raise PlainRefusal("TooLong", None)
        self.begun += 1
        if step[0] in ("say", "tell"):
            return step[1] if step[0] == "say" else things[step[1]][1]
        if step[0] == "call":
            return self.call(step[1], [things[pick[1]] if pick[0] == "own" else pick[1:] for pick in step[2]])
        book, kinds = self.book(deed), tuple(kind for kind, _ in things)
        own = dict(book[2])[rule]
        farther = [name for name in plain_fitting(book, kinds) if plain_nearer(self.web, own, dict(book[2])[name])]
        answer = plain_answer_of(book, farther)
        return 0 if answer == ("none",) else self.begin(deed, things, answer)

    def call(self, deed, things):
        return self.begin(deed, things, plain_answer(self.book(deed), tuple(kind for kind, _ in things)))


class PlainRefusal(Exception):
    pass


def plain_run(program, deed, things):
    """What a run tells, or the name of the class and the `at` of its refusal."""
    walk = PlainRun(program)
    try:
        return (walk.call(deed, things), walk.met)
    except PlainRefusal as refusal:
        return refusal.args


def some_labels(web, seed):
    """Labels of the web's kinds: all alike, all unlike, and between, the same ones each time."""
    chance = random.Random(seed)
    count = len(web)
    rows = [[7] * count, [MOST - number for number in range(count)], [-number for number in range(count)]]
    for unlike in (2, 2, 3, 4):
        rows.append([chance.randint(-1, unlike - 2) for _ in range(count)])
    return rows


def some_weights(web, seed):
    """Weights of the web's kinds: all 0, all 999, and between, the same ones each time."""
    chance = random.Random(seed)
    count = len(web)
    rows = [[0] * count, [999] * count, [number % 2 * 999 for number in range(count)]]
    return rows + [[chance.randint(0, most) for _ in range(count)] for most in (1, 9, 999)]


def plain_led(web, tree, arm):
    """From the first node, by what the arm stands on, to a label."""
    number, count = 0, 0
    while tree[number][0] == "ask":
        number = tree[number][2] if plain_arm_stands(web, arm, tree[number][1]) else tree[number][3]
        count += 1
    return (tree[number][1], count)


def plain_nodes_come_to(web, tree):
    """The numbers of the nodes that some kind comes to."""
    numbers = set()
    for kind, _ in web:
        number = 0
        numbers.add(0)
        while tree[number][0] == "ask":
            number = tree[number][2] if plain_stands(web, kind, tree[number][1]) else tree[number][3]
            numbers.add(number)
    return numbers


def plain_depth(tree, number=0):
    """The most questions on any way from this node to a label."""
    if tree[number][0] == "tell":
        return 0
    return 1 + max(plain_depth(tree, tree[number][2]), plain_depth(tree, tree[number][3]))


def plain_load(web, tree, weights):
    return sum(weight * plain_led(web, tree, kind)[1] for weight, (kind, _) in zip(weights, web))


def is_plain_number(thing):
    return type(thing) is int


def plain_is_tree(web, thing):
    """[24] clause by clause, of anything."""
    if type(thing) is not list or not 1 <= len(thing) <= 60:
        return False
    leads = []
    for number, node in enumerate(thing):
        if type(node) is not tuple or len(node) not in (2, 4):
            return False
        if len(node) == 2 and (node[0] != "tell" or not is_plain_number(node[1]) or abs(node[1]) >= 10 ** 30):
            return False
        if len(node) == 4:
            if node[0] != "ask" or node[1] not in [name for name, _ in web]:
                return False
            if any(not is_plain_number(to) or not number < to < len(thing) for to in node[2:]):
                return False
            leads += node[2:]
    return all(leads.count(number) == 1 for number in range(1, len(thing)))


def plain_tells(web, labels, thing):
    if not plain_is_tree(web, thing):
        return False
    return all(plain_led(web, thing, kind)[0] == label for (kind, _), label in zip(web, labels))


def shifted(tree, by):
    """The nodes of the tree, numbered from another number on."""
    return [node if node[0] == "tell" else ("ask", node[1], node[2] + by, node[3] + by) for node in tree]


def all_trees(names, labels, asks):
    """All trees with just so many questions, of these kinds and labels, but for the order of their nodes."""
    if asks == 0:
        return [[("tell", label)] for label in labels]
    told = []
    for high in range(asks):
        for yes in all_trees(names, labels, high):
            for no in all_trees(names, labels, asks - 1 - high):
                for name in names:
                    told.append([("ask", name, 1, 1 + len(yes))] + shifted(yes, 1) + shifted(no, 1 + len(yes)))
    return told


def plain_split(web, kinds, asked):
    """Those of the kinds that stand on the asked one, and those that don't."""
    those = [kind for kind in kinds if plain_stands(web, kind, asked)]
    return those, [kind for kind in kinds if kind not in those]


def plain_are_kinds(web, thing):
    """Whether something is a list of names of kinds in the web's order."""
    names = [name for name, _ in web]
    if type(thing) is not list or any(part not in names for part in thing):
        return False
    ranks = [names.index(part) for part in thing]
    return all(one < other for one, other in zip(ranks, ranks[1:]))


def plain_are_lines(web, thing):
    """Whether something is a list of (kinds, whole number from 0 on), the first with all kinds."""
    if type(thing) is not list or not thing:
        return False
    for line in thing:
        if type(line) is not tuple or len(line) != 2 or not plain_are_kinds(web, line[0]):
            return False
        if not is_plain_number(line[1]) or line[1] < 0:
            return False
    return thing[0][0] == [name for name, _ in web]


def some_sorts(web, seed):
    """Sorts of the web without bundles, with one and with two, the same ones each time."""
    chance = random.Random(seed)
    names = [name for name, _ in web]
    sorts = [[]]
    for bundles in (1, 2):
        sorts.append([chance.sample(names, min(len(names), chance.randint(2, 5))) for _ in range(bundles)])
    return sorts


def some_calls(book, count, seed):
    """Calls of the book, of names and of other arms, the same ones each time."""
    chance = random.Random(seed)
    names = [name for name, _ in book[0]]
    arms = names * 2 + [(name,) for name in names]
    arms += [tuple(chance.sample(names, chance.randint(1, min(3, len(names))))) for _ in names]
    return [tuple(chance.choice(arms) for _ in range(book[1])) for _ in range(count)]


class Refusals:
    """For test cases: how a refusal is looked at."""

    def assert_refused(self, kind, at, deed, *things):
        """The deed is refused with just this class and this `at`, and leaves all things as they were."""
        ahead = copy.deepcopy(things)
        with self.assertRaises(kind) as caught:
            deed(*things)
        self.assertIs(caught.exception.__class__, kind)
        self.assertEqual(caught.exception.at, at)
        self.assertIs(caught.exception.at.__class__, at.__class__)
        self.assertEqual(things, ahead)

    def assert_untouched(self, deed, *things):
        """The deed leaves all things as they were, and what it tells is the asker's own; told is what it tells."""
        ahead = copy.deepcopy(things)
        told = deed(*things)
        kept = copy.deepcopy(told)
        self.assertEqual(things, ahead)
        ruin(told)
        self.assertEqual(things, ahead)
        again = deed(*things)
        self.assertEqual(again, kept)
        return kept


def ruin(told):
    """Change each list within what was told."""
    if isinstance(told, (list, tuple)):
        for part in told:
            ruin(part)
    if isinstance(told, list):
        told.append("ruined")
        told.reverse()
