"""What the tests of the hall and of the desk share: a plain reading of [35] to [38], and changes of all sorts."""

import copy
import itertools
import random

from helper import MOST, PlainRefusal, PlainRun, plain_answer


def is_plain_name(thing):
    return type(thing) is str and 1 <= len(thing) <= 8 and all(sign in "abcdefghijklmnopqrstuvwxyz" for sign in thing)


def is_plain_figure(thing):
    return type(thing) is int and abs(thing) <= MOST


class AskingRun(PlainRun):
    """A plain run that writes down each call that is asked; onward is not."""

    def __init__(self, program):
        PlainRun.__init__(self, program)
        self.asked = []

    def call(self, deed, things):
        self.asked.append((deed, tuple(kind for kind, _ in things)))
        return PlainRun.call(self, deed, things)


class PlainHall:
    """[35] to [38] word by word: all answers are told anew by the program alone, ahead and behind each change."""

    def __init__(self, kind):
        if not is_plain_name(kind):
            raise PlainRefusal("NoName", kind)
        self.web, self.deeds = [(kind, [])], []
        self.calls, self.count = [], 0

    def program(self):
        return copy.deepcopy((self.web, self.deeds))

    def names(self):
        return [name for name, _ in self.web]

    def number_of(self, deed):
        for number, (name, _, _) in enumerate(self.deeds):
            if name == deed:
                return number
        raise PlainRefusal("NoDeed", deed)

    def book(self, deed):
        _, places, rules = self.deeds[self.number_of(deed)]
        return (self.web, places, [(name, kinds) for name, kinds, _ in rules])

    def all_answers(self):
        told = {}
        for deed, places, _ in self.deeds:
            for call in itertools.product(self.names(), repeat=places):
                told[(deed, call)] = plain_answer(self.book(deed), call)
        return told

    def changed(self, change, *things):
        ahead = self.all_answers()
        change(*things)
        behind = self.all_answers()
        self.calls = [call for call in self.calls if call in behind]
        return [(deed, call, ahead[deed, call], answer) for (deed, call), answer in behind.items()
                if (deed, call) in ahead and ahead[deed, call] != answer]

    def kind(self, name, elders):
        return self.changed(self.put_kind, name, elders)

    def deed(self, name, places):
        return self.changed(self.put_deed, name, places)

    def rule(self, deed, name, kinds, steps):
        return self.changed(self.put_rule, deed, name, kinds, steps)

    def drop(self, deed, name):
        return self.changed(self.take_rule, deed, name)

    def unkind(self, name):
        return self.changed(self.take_kind, name)

    def put_kind(self, name, elders):
        if not is_plain_name(name):
            raise PlainRefusal("NoName", name)
        names = self.names()
        count = len(set(names + [name]))
        if count > 10 or len(elders) > 4 or any(count ** places > 216 for _, places, _ in self.deeds):
            raise PlainRefusal("Full", None)
        ahead = names[:names.index(name)] if name in names else names
        for elder in elders:
            if elder not in ahead:
                raise PlainRefusal("NoKind", elder)
        for number, elder in enumerate(elders):
            if elder in elders[:number]:
                raise PlainRefusal("Twice", elder)
        if name in names:
            self.web[names.index(name)] = (name, list(elders))
        else:
            self.web.append((name, list(elders)))

    def put_deed(self, name, places):
        if not is_plain_name(name):
            raise PlainRefusal("NoName", name)
        if name in [deed for deed, _, _ in self.deeds]:
            raise PlainRefusal("Taken", name)
        if len(self.deeds) == 4 or len(self.web) ** places > 216:
            raise PlainRefusal("Full", None)
        self.deeds.append((name, places, []))

    def is_pick(self, places, pick):
        if type(pick) is not tuple or len(pick) not in (2, 3):
            return False
        if len(pick) == 2:
            return pick[0] == "own" and type(pick[1]) is int and 0 <= pick[1] < places
        return pick[0] == "new" and pick[1] in self.names() and is_plain_figure(pick[2])

    def is_step(self, places, step):
        if type(step) is not tuple or len(step) not in (1, 2, 3):
            return False
        if len(step) == 1:
            return step[0] == "onward"
        if len(step) == 2:
            if step[0] == "say":
                return is_plain_figure(step[1])
            return step[0] == "tell" and type(step[1]) is int and 0 <= step[1] < places
        if step[0] != "call" or type(step[2]) is not list:
            return False
        sizes = [size for name, size, _ in self.deeds if name == step[1]]
        return sizes == [len(step[2])] and all(self.is_pick(places, pick) for pick in step[2])

    def put_rule(self, deed, name, kinds, steps):
        _, places, rules = self.deeds[self.number_of(deed)]
        if not is_plain_name(name):
            raise PlainRefusal("NoName", name)
        others = [rule for rule in rules if rule[0] != name]
        if len(others) >= 12:
            raise PlainRefusal("Full", None)
        if len(kinds) != places:
            raise PlainRefusal("NoCall", None)
        for kind in kinds:
            if kind not in self.names():
                raise PlainRefusal("NoKind", kind)
        for other in others:
            if other[1] == kinds:
                raise PlainRefusal("Twice", other[0])
        for number, step in enumerate(steps):
            if number >= 6 or not self.is_step(places, step):
                raise PlainRefusal("NoStep", number)
        place = [rule[0] for rule in rules].index(name) if len(others) < len(rules) else len(rules)
        rules[place:place + 1] = [(name, kinds, copy.deepcopy(steps))]

    def take_rule(self, deed, name):
        rules = self.deeds[self.number_of(deed)][2]
        names = [rule[0] for rule in rules]
        if name not in names:
            raise PlainRefusal("NoRule", name)
        del rules[names.index(name)]

    def take_kind(self, name):
        if name not in self.names():
            raise PlainRefusal("NoKind", name)
        for kind, elders in self.web:
            if name in elders:
                raise PlainRefusal("Needed", kind)
        for deed, _, rules in self.deeds:
            for rule, kinds, steps in rules:
                new = [pick[1] for step in steps if step[0] == "call" for pick in step[2] if pick[0] == "new"]
                if name in list(kinds) + new:
                    raise PlainRefusal("Needed", (deed, rule))
        if len(self.web) == 1:
            raise PlainRefusal("Needed", None)
        self.web = [(kind, elders) for kind, elders in self.web if kind != name]

    def note(self, asked):
        for call in asked:
            if call not in self.calls:
                self.calls.append(call)
                self.count += 1

    def check(self, deed, kinds):
        if len(kinds) != self.deeds[self.number_of(deed)][1]:
            raise PlainRefusal("NoCall", None)
        for kind in kinds:
            if kind not in self.names():
                raise PlainRefusal("NoKind", kind)

    def ask(self, deed, call):
        self.check(deed, call)
        self.note([(deed, call)])
        return plain_answer(self.book(deed), call)

    def kept(self):
        return [(deed, call, plain_answer(self.book(deed), call)) for deed, call in self.calls]

    def reckoned(self):
        return self.count

    def run(self, deed, things):
        self.check(deed, [kind for kind, _ in things])
        walk = AskingRun(self.program())
        total = walk.call(deed, things)
        self.note(walk.asked)
        return (total, walk.met)


KINDS = list("abcdefg")
DEEDS = ["do", "make", "go", "a", "be"]
RULES = ["ra", "rb", "rc", "rd"]


def some_figure(chance):
    return chance.choice([0, 1, -1, MOST, -MOST, chance.randint(-99, 99)])


class Changes:
    """Changes, askings and runs of a hall, right and wrong ones, by what stands in its program, the same each time."""

    def __init__(self, seed):
        self.chance = random.Random(seed)

    def some(self, known, pool):
        """Mostly something that is known, else something of the pool."""
        return self.chance.choice(known) if known and self.chance.random() < 0.9 else self.chance.choice(pool)

    def pick(self, kinds, places):
        if self.chance.random() < 0.7:
            return ("own", self.chance.randrange(places + (self.chance.random() < 0.05)))
        return ("new", self.some(kinds, KINDS), some_figure(self.chance))

    def step(self, kinds, deeds, number):
        _, places, _ = deeds[number]
        word = self.chance.choice(["say", "tell", "call", "onward"])
        if word == "say":
            return ("say", some_figure(self.chance))
        if word == "tell":
            return ("tell", self.chance.randrange(places + (self.chance.random() < 0.05)))
        if word == "onward":
            return ("onward",)
        # Mostly a deed behind, so that most runs come to an end.
        behind = deeds[number + 1:] if self.chance.random() < 0.8 else deeds
        if not behind:
            return ("say", 5)
        name, size, _ = self.chance.choice(behind)
        size += self.chance.random() < 0.05
        return ("call", name, [self.pick(kinds, places) for _ in range(size)])

    def change(self, program):
        """The name of a method of a hall, and what is handed to it."""
        web, deeds = program
        kinds = [name for name, _ in web]
        word = self.chance.choice(["kind", "kind", "deed", "rule", "rule", "rule", "rule", "drop", "unkind"]
                                  + ["ask", "run"] * 4)
        if word == "kind":
            name = self.chance.choice(KINDS)
            ahead = kinds[:kinds.index(name)] if name in kinds else kinds
            count = self.chance.choice([0, 1, 1, 2, 2, 2, 3])
            return word, (name, [self.some(ahead, KINDS) for _ in range(count)])
        if word == "deed":
            return word, (self.chance.choice(DEEDS), self.chance.choice([1, 1, 2, 2, 2, 3]))
        if word == "unkind":
            return word, (self.some(kinds, KINDS),)
        names = [name for name, _, _ in deeds]
        deed = self.some(names, DEEDS)
        number = names.index(deed) if deed in names else None
        places = deeds[number][1] if deed in names else 1
        if word == "drop":
            return word, (deed, self.chance.choice(RULES))
        size = max(1, places + (self.chance.random() < 0.04) - (self.chance.random() < 0.04))
        handed = tuple(self.some(kinds[:1] if self.chance.random() < 0.3 else kinds, KINDS) for _ in range(size))
        if word == "rule":
            count = self.chance.choice([0, 1, 1, 2, 3, 7]) if deed in names else 0
            return word, (deed, self.chance.choice(RULES), handed, [self.step(kinds, deeds, number) for _ in range(count)])
        if word == "ask":
            return word, (deed, handed)
        return word, (deed, [(kind, some_figure(self.chance)) for kind in handed])


def plain_outcome(deed, *things):
    """What a deed tells, or the name of the class and the `at` of its refusal."""
    try:
        return deed(*things)
    except PlainRefusal as refusal:
        return refusal.args
