"""[41]: a desk, its rows, and what it answers."""

import itertools
import re
import unittest

from bestcalls.answers import answer_of
from bestcalls.desk import Desk
from bestcalls.enders import enders
from bestcalls.errors import (
    Full, Needed, NoCall, NoDeed, NoFit, NoKind, NoName, NoRow, NoRule, NoStep, Quarrel, Taken, TooDeep, TooLong, Twice)
from bestcalls.free import quarrel
from bestcalls.hall import Hall
from bestcalls.machine import machine
from bestcalls.onward import chain, onward
from bestcalls.pressed import pressed
from bestcalls.programs import book_in
from bestcalls.questions import depth_of, tree_of
from bestcalls.reader import read
from bestcalls.texts import shown
from bestcalls.walks import best_order
from halls import Changes, PlainHall, plain_outcome
from helper import ANYTHING, MOST, Refusals, some_calls, some_sorts
from samples import ladder, long_program, outcome

BEGIN = [
    "kind b < a", "kind c < a", "kind d < b c", "deed do 2", "deed go 1", "rule do far a a = say 100, onward, tell 0",
    "rule do left b a = onward", "rule do right a c", "rule do low d a = onward, say 1000",
    "rule go any a = call do 0 b:-5, tell 0", "rule go none d"]

# Each row of the interface, and more than one where it may be told in several ways; all are done at the begun desk.
ROWS = [
    "kind e", "kind e < a", "kind abcdefgh < d c b a", "kind d < c", "deed ho 1", "deed ho 2", "deed ho 3",
    "rule go r b", "rule do r b c = say 0", "rule do r b b = say -7, tell 1, call go 1, call do 1 d:0, onward, say " + "9" * 30,
    "rule go any c = call go d:12", "drop do low", "unkind e", "ask do a d", "ask go c", "best do b+c a", "best do d a",
    "best go a+b+c+d", "best go a", "onward do low d d", "onward do left b+c a", "onward go any a", "chain do d a",
    "chain do d+c b", "chain go a", "kept", "reckoned", "run do b:5 a:-7", "run go a:0", "machine do b:5 a:-7",
    "machine go a:10", "free do", "free do b+c", "free do b+c a+b+c+d", "free go d", "enders do", "enders go", "groups do",
    "groups go", "order do", "order go", "depth do 0", "depth do 1", "depth go 0", "show"]

NAME = "[a-z]{1,8}"
FIGURE = "(?:0|-?[1-9][0-9]{0,29})"
PICK = f"(?:[012]|{NAME}:{FIGURE})"
STEP = f"(?:say {FIGURE}|tell [012]|call {NAME}(?: {PICK})+|onward)"
ARM = rf"{NAME}(?:\+{NAME})*"
GRAMMAR = re.compile("|".join([
    f"kind {NAME}(?: <(?: {NAME})+)?", f"deed {NAME} [123]", f"rule {NAME} {NAME}(?: {NAME})+(?: = {STEP}(?:, {STEP})*)?",
    f"drop {NAME} {NAME}", f"unkind {NAME}", f"ask {NAME}(?: {NAME})+", f"(?:best|chain) {NAME}(?: {ARM})+",
    f"onward {NAME} {NAME}(?: {ARM})+", "kept|reckoned|show", f"(?:run|machine) {NAME}(?: {NAME}:{FIGURE})+",
    f"free {NAME}(?: {ARM}){{0,2}}", f"(?:enders|groups|order) {NAME}", f"depth {NAME} [012]"]))


def is_row(row):
    """Whether the text is one of the rows, by a grammar of the interface."""
    if not GRAMMAR.fullmatch(row):
        return False
    bundles = [word.split("+") for word in row.split(" ")[2:] if "+" in word]
    if row.startswith("free ") and any(len(bundle) > 5 for bundle in bundles):
        return False
    return all(len(set(bundle)) == len(bundle) for bundle in bundles)


def desk_of(rows):
    """A desk that was told the rows, begun with the kind a."""
    desk = Desk("a")
    for row in rows:
        desk.say(row)
    return desk


def state_of(desk):
    return [desk.say(row) for row in ("show", "kept", "reckoned")]


def words_of(words):
    return " ".join(words) if words else "-"


def call_words(calls):
    return words_of([f"{deed}:{'.'.join(call)}" for deed, call in calls])


def answer_words(answer):
    return " ".join(["quarrel", *answer[1]] if answer[0] == "quarrel" else answer)


def step_text(step):
    if step[0] != "call":
        return " ".join(str(part) for part in step)
    picks = [str(pick[1]) if pick[0] == "own" else f"{pick[1]}:{pick[2]}" for pick in step[2]]
    return " ".join(["call", step[1], *picks])


def row_of(word, things):
    """The row that tells a desk what a hall is told."""
    if word == "kind":
        return " ".join(["kind", things[0]] + (["<", *things[1]] if things[1] else []))
    if word == "rule":
        deed, name, kinds, steps = things
        return " ".join(["rule", deed, name, *kinds]) + (" = " + ", ".join(map(step_text, steps)) if steps else "")
    if word == "ask":
        return " ".join(["ask", things[0], *things[1]])
    if word == "run":
        return " ".join(["run", things[0]] + [f"{kind}:{figure}" for kind, figure in things[1]])
    return " ".join([word] + [str(thing) for thing in things])


def text_of(word, told):
    """What a desk answers where a hall tells this."""
    if word == "ask":
        return answer_words(told)
    if word == "run":
        return " ".join([str(told[0])] + [f"{deed}.{rule}" for deed, rule in told[1]])
    return call_words([(deed, call) for deed, call, _, _ in told])


class DeskCase(unittest.TestCase, Refusals):

    def assert_no_change(self, kind, at, desk, row):
        """The desk refuses the row, just so, and all is as it was."""
        ahead = state_of(desk)
        self.assert_refused(kind, at, desk.say, row)
        self.assertEqual(state_of(desk), ahead)


class TestRows(DeskCase):

    def test_begin(self):
        self.assertEqual(Desk("a").say("show"), "kind a")
        self.assertEqual(Desk(kind="abcdefgh").say(row="show"), "kind abcdefgh")
        for thing in ANYTHING:
            if thing not in ("a", "b", "zz"):
                self.assert_refused(NoName, thing, Desk, thing)

    def test_changes(self):
        desk = Desk("a")
        cases = [
            ("kind b < a", "-"), ("kind c < a", "-"), ("kind d < b c", "-"), ("deed do 2", "-"), ("deed go 1", "-"),
            ("rule go r b", "go:b go:d"), ("rule do r d a", "do:d.a do:d.b do:d.c do:d.d"),
            ("rule do s a d = say 3", "do:a.d do:b.d do:c.d do:d.d"), ("rule do s a d = say 4", "-"),
            ("kind d < c", "go:d"), ("kind d", "do:d.d"),
            ("drop go r", "go:b"), ("unkind c", "-")]
        for row, text in cases:
            self.assertEqual(desk.say(row), text, row)
        self.assertEqual(desk.say("show"), "\n".join([
            "kind a", "kind b < a", "kind d", "deed do 2", "deed go 1", "rule do r d a", "rule do s a d = say 4"]))

    def test_answers(self):
        desk = desk_of(BEGIN)
        cases = [
            ("ask do d d", "quarrel right low"), ("ask do a a", "rule far"), ("ask go b", "rule any"),
            ("best do d d", "quarrel right low"), ("best do b+c c", "quarrel left right"), ("best do c+b a", "rule left"),
            ("best go b+c", "rule any"), ("onward do low d a", "rule left"), ("onward do low d d", "rule left"),
            ("onward do far d d", "none"), ("onward do left b+c a", "rule far"), ("chain do d a", "low left far then none"),
            ("chain do d d", "then quarrel right low"), ("chain go d", "none any then none"), ("chain do a a", "far then none")]
        for row, text in cases:
            self.assertEqual(desk.say(row), text, row)
        desk.say("kind e")
        self.assertEqual(desk.say("chain do e e"), "then none")
        self.assertEqual(desk.say("ask do e e"), "none")
        self.assertEqual(desk.say("best go e+a"), "rule any")
        self.assertEqual(desk.say("best go e"), "none")
        desk.say("rule do lowest d d = onward")
        self.assertEqual(desk.say("onward do lowest d d"), "quarrel right low")
        self.assertEqual(desk.say("chain do d d"), "lowest then quarrel right low")

    def test_kept(self):
        desk = desk_of(BEGIN)
        self.assertEqual([desk.say("kept"), desk.say("reckoned")], ["-", "0"])
        for row in ("best do d d", "onward do low d d", "chain do d a", "machine go a:5", "free do", "groups do"):
            desk.say(row)
        # Only the hall's own asking keeps.
        self.assertEqual([desk.say("kept"), desk.say("reckoned")], ["-", "0"])
        desk.say("ask do d d")
        desk.say("ask go c")
        desk.say("ask do d d")
        self.assertEqual([desk.say("kept"), desk.say("reckoned")], ["do:d.d go:c", "2"])
        self.assertEqual(desk.say("run go a:5"), "110 go.any do.far")
        self.assertEqual([desk.say("kept"), desk.say("reckoned")], ["do:d.d go:c go:a do:a.b", "4"])
        desk.say("drop go none")
        desk.say("drop do low")
        desk.say("unkind d")
        self.assertEqual([desk.say("kept"), desk.say("reckoned")], ["go:c go:a do:a.b", "4"])

    def test_runs(self):
        desk = desk_of(BEGIN)
        for word in ("run", "machine"):
            self.assertEqual(desk.say(f"{word} do d:5 a:-7"), "1105 do.low do.left do.far")
            self.assertEqual(desk.say(f"{word} go a:-500"), "-900 go.any do.far")
            self.assertEqual(desk.say(f"{word} go d:{MOST}"), "0 go.none")
            self.assertEqual(desk.say(f"{word} go a:{MOST}"), f"{2 * MOST + 100} go.any do.far")

    def test_free(self):
        desk = desk_of(BEGIN)
        self.assertEqual(desk.say("free do"), "quarrel left right at b c")
        self.assertEqual(desk.say("free do b+c a"), "quarrel left right at b c")
        self.assertEqual(desk.say("enders do"), "b.c d.c")
        desk.say("rule do end b c")
        self.assertEqual(desk.say("free do"), "quarrel low end at d c")
        desk.say("rule do lower d c")
        for row in ("free do", "free go", "free do b+c", "free do a d+c", "free do a b"):
            self.assertEqual(desk.say(row), "free", row)
        self.assertEqual([desk.say("enders do"), desk.say("enders go")], ["-", "-"])
        desk = desk_of(["kind b", "kind c", "deed do 2", "rule do r b a", "rule do s c a"])
        self.assertEqual(desk.say("free do"), "free")
        self.assertEqual(desk.say("free do c+b"), "quarrel r s at b+c a")
        self.assertEqual(desk.say("free do a+b b+c"), "quarrel r s at b+c a")
        self.assertEqual(desk.say("free do a+b a+c"), "free")
        self.assertEqual(desk.say("free do a b"), "free")

    def test_pressed(self):
        desk = desk_of(BEGIN)
        self.assertEqual(desk.say("groups do"), "0.1.0.2 0.0.1.1")
        self.assertEqual(desk.say("groups go"), "0.0.0.1")
        self.assertEqual([desk.say("depth do 0"), desk.say("depth do 1"), desk.say("depth go 0")], ["2", "1", "1"])
        self.assertEqual([desk.say("order do"), desk.say("order go")], ["1 0", "0"])
        desk.say("deed ho 3")
        self.assertEqual([desk.say(f"depth ho {place}") for place in (0, 1, 2)], ["0", "0", "0"])
        self.assertEqual([desk.say("groups ho"), desk.say("order ho")], ["0.0.0.0 0.0.0.0 0.0.0.0", "0 1 2"])

    def test_show(self):
        desk = Desk("a")
        self.assertEqual(desk.say("show"), "kind a")
        desk = desk_of(BEGIN)
        told = desk.say("show")
        self.assertEqual(told.split("\n"), ["kind a"] + BEGIN)
        self.assertEqual(read(told + "\n")[0][3], ("d", ["b", "c"]))
        # What is shown, told row by row to another desk, comes to the same.
        self.assertEqual(desk_of(told.split("\n")).say("show"), told)

    def test_each_row_is_done(self):
        for row in ROWS:
            self.assertTrue(is_row(row), row)
            desk = desk_of(BEGIN + (["kind e"] if row == "unkind e" else []))
            self.assertIsInstance(desk.say(row), str)


class TestNoRow(DeskCase):

    def is_taken(self, desk, row):
        """Whether the desk takes the row, done or refused."""
        try:
            desk.say(row)
        except NoRow as refusal:
            self.assertIsNone(refusal.at)
            return False
        except (Full, Needed, NoCall, NoDeed, NoFit, NoKind, NoRule, NoStep, Quarrel, Taken, Twice):
            pass
        return True

    def test_each_row_spoilt_in_one_sign(self):
        met = {True: 0, False: 0}
        desk = desk_of(BEGIN)
        for row in ROWS:
            for place in range(len(row) + 1):
                worse = {row[:place] + row[place + 1:]}
                for sign in " \t\nazA019+-.,:<=~":
                    worse |= {row[:place] + sign + row[place:], row[:place] + sign + row[place + 1:]}
                for one in worse:
                    right = is_row(one)
                    self.assertIs(self.is_taken(desk, one), right, repr(one))
                    met[right] += 1
                    if right:
                        desk = desk_of(BEGIN)
        self.assertGreater(min(met.values()), 1000)

    def test_each_row_spoilt_in_one_word(self):
        others = ["", "a", "do", "kind", "0", "1", "2", "3", "4", "-1", "<", "=", "a+b", "a+a", "a:1", "a:01", "a:-0", ",", "say",
                  "onward", "abcdefghi", "A", "a.b", "do:a", "\n", "+", "a+", "+a", "a++b", ":", "a:", ":1", "-"]
        desk = desk_of(BEGIN)
        for row in ROWS:
            words = row.split(" ")
            for place in range(len(words) + 1):
                worse = {" ".join(words[:place] + words[place + 1:]), " ".join(words[:place] + words[:place][-1:] + words[place:])}
                for word in others:
                    worse |= {" ".join(words[:place] + [word] + words[place:]), " ".join(words[:place] + [word] + words[place + 1:])}
                for one in worse:
                    right = is_row(one)
                    self.assertIs(self.is_taken(desk, one), right, repr(one))
                    if right:
                        desk = desk_of(BEGIN)

    def test_named_ones(self):
        desk = desk_of(BEGIN)
        wrong = [
            "", " ", "-", "kinds", "hall", "kind", "kind ", "kind  e", " kind e", "kind e ", "kind e\n", "kind e <", "kind e < ",
            "kind e <a", "kind e a", "kind e < a <", "kind e < A", "kind E", "kind abcdefghi", "kind e, f", "kind e < a+b",
            "deed ho", "deed ho 0", "deed ho 4", "deed ho 01", "deed ho 1 1", "deed ho -1", "deed ho one", "deed 1 ho",
            "rule", "rule go", "rule go r", "rule go r =", "rule go r = say 1", "rule go r a =", "rule go r a = ",
            "rule go r a = say", "rule go r a = say 1,", "rule go r a = say 1, ", "rule go r a = say 1 , say 2",
            "rule go r a = say 1,say 2", "rule go r a = say 1,  say 2", "rule go r a = , say 1", "rule go r a = say 01",
            "rule go r a = say -0", "rule go r a = say +1", "rule go r a = say 1.0", "rule go r a = say --1", "rule go r a = say -",
            "rule go r a = say 1" + "0" * 30, "rule go r a = say -1" + "0" * 30, "rule go r a = say 00", "rule go r a = say 1 2",
            "rule go r a = tell 3", "rule go r a = tell 00", "rule go r a = tell", "rule go r a = tell 0 0", "rule go r a = tell a",
            "rule go r a = tell -1", "rule go r a = call", "rule go r a = call go", "rule go r a = call go 3",
            "rule go r a = call 0 go", "rule go r a = call go a:", "rule go r a = call go :1", "rule go r a = call go a:01",
            "rule go r a = call go a:1:2", "rule go r a = call go a", "rule go r a = call go 0:1", "rule go r a = onward 1",
            "rule go r a = onwards", "rule go r a = say 1 = say 2", "rule go r a == say 1", "rule go r A", "rule go r a+b",
            "drop go", "drop go any any", "drop", "unkind", "unkind a b", "unkind a+b", "ask go", "ask", "ask go a+b", "ask go a:1",
            "best go", "best go a+a", "best go a+", "best go +a", "best go a++b", "best go a+b+a", "best go +", "onward go any",
            "onward go a+b a", "onward go", "onward", "chain go", "chain go c+c", "kept a", "kept ", "reckoned 1", "show a", "show\n",
            "run go", "run go a", "run go a:", "run go a:-0", "run go a:007", "run go :5", "run go a:1" + "0" * 30, "run a:1",
            "machine go a:1:1", "machine go 1:a", "free", "free do a b c", "free do a+a", "free do a+b+c+d+e+f", "free do a+b+c+d+a",
            "free do a,b", "enders", "enders do go", "groups", "order do 0", "depth do", "depth do 3", "depth do 00", "depth do 0 1",
            "depth do -1", "depth 0 do", "rule go r a = say None", "run go a:None", "KIND e", "Kept", "kept\t", "a" * 101, "kind " + "e" * 1995]
        for row in wrong:
            self.assertFalse(is_row(row), row)
            self.assert_no_change(NoRow, None, desk, row)
        for thing in ANYTHING:
            self.assert_no_change(NoRow, None, desk, thing)

    def test_looked_at_whole_first(self):
        # What would be refused otherwise is no row, wherever it is spoilt.
        desk = desk_of(BEGIN)
        for row in ("ask x a ", "rule x r x = say", "run x x:1 x", "best x a+a", "free x a+a", "depth x 3", "deed do 4",
                    "unkind x x", "onward do x a b+b", "rule do r a = tell 3"):
            self.assert_no_change(NoRow, None, desk, row)

    def test_long_rows(self):
        desk = desk_of(BEGIN)
        row = "rule go r b = " + ", ".join(["say 5"] * 280)
        self.assertLess(len(row), 2000)
        self.assert_no_change(NoStep, 6, desk, row)
        self.assert_no_change(Full, None, desk, "kind e < " + " ".join(["a"] * 900))
        self.assert_no_change(NoCall, None, desk, "ask go " + " ".join(["x"] * 900))
        self.assert_no_change(NoStep, 0, desk, "rule go r b = call go " + " ".join(["0"] * 900))


class TestRefusals(DeskCase):

    def test_refusals(self):
        desk = desk_of(BEGIN + ["ask go a"])
        cases = [
            ("kind e < x", NoKind, "x"), ("kind e < a a", Twice, "a"), ("kind e < a b c d a", Full, None),
            ("kind b < c", NoKind, "c"), ("kind a < a", NoKind, "a"), ("deed do 1", Taken, "do"), ("rule x r a", NoDeed, "x"),
            ("rule go r a b", NoCall, None), ("rule go r x", NoKind, "x"), ("rule go r a", Twice, "any"),
            ("rule go r b = say 1, tell 1", NoStep, 1), ("rule go r b = tell 0, call x 0", NoStep, 1),
            ("rule go r b = call do 0", NoStep, 0), ("rule go r b = call go x:1", NoStep, 0), ("rule go r b = call go 1", NoStep, 0),
            ("rule go r b = " + ", ".join(["onward"] * 7), NoStep, 6), ("drop x r", NoDeed, "x"), ("drop go r", NoRule, "r"),
            ("unkind x", NoKind, "x"), ("unkind a", Needed, "b"), ("unkind d", Needed, ("do", "low")),
            ("ask x a", NoDeed, "x"), ("ask go a a", NoCall, None), ("ask go x", NoKind, "x"), ("ask do a x", NoKind, "x"),
            ("best x a", NoDeed, "x"), ("best do a", NoCall, None), ("best do a+y x", NoKind, "y"), ("best do y+x z", NoKind, "y"),
            ("onward x low d a", NoDeed, "x"), ("onward do x x", NoRule, "x"), ("onward do low d", NoCall, None),
            ("onward do low a x", NoKind, "x"), ("onward do low a a", NoFit, "low"), ("chain x a", NoDeed, "x"),
            ("chain do a", NoCall, None), ("chain do a x+y", NoKind, "x"), ("free x y", NoDeed, "x"), ("free do a+x y", NoKind, "x"),
            ("free do y+x", NoKind, "y"), ("free do a b+y", NoKind, "y"), ("enders x", NoDeed, "x"), ("groups x", NoDeed, "x"),
            ("order x", NoDeed, "x"), ("depth x 2", NoDeed, "x"), ("depth do 2", NoCall, None), ("depth go 1", NoCall, None),
            ("depth go 2", NoCall, None)]
        for word in ("run", "machine"):
            cases += [
                (f"{word} x y:1", NoDeed, "x"), (f"{word} do a:1", NoCall, None), (f"{word} do x:1 y:1", NoKind, "x"),
                (f"{word} do d:1 d:1", Quarrel, ("do", ("d", "d"), ("right", "low")))]
        for row, kind, at in cases:
            self.assertTrue(is_row(row), row)
            self.assert_no_change(kind, at, desk, row)

    def test_runs_that_are_refused(self):
        desk = desk_of(BEGIN + ["kind e", "ask go a"])
        for word in ("run", "machine"):
            self.assert_no_change(NoFit, ("do", ("e", "a")), desk, f"{word} do e:1 a:1")
            self.assert_no_change(NoFit, ("go", ("e",)), desk, f"{word} go e:1")
        desk.say("rule go any a = call do 0 e:1")
        for word in ("run", "machine"):
            self.assert_no_change(NoFit, ("do", ("a", "e")), desk, f"{word} go a:1")
        lines = shown(ladder([("call", "dd", [("own", 0), ("own", 1)])])).split("\n")[:-1]
        deep = Desk("t")
        for line in lines:
            deep.say(line)
        lines = shown(long_program(behind=[("say", 1)])).split("\n")[:-1]
        long = desk_of(lines)
        for word in ("run", "machine"):
            self.assert_no_change(TooDeep, None, deep, f"{word} da p:0 p:0")
            self.assert_no_change(TooLong, None, long, f"{word} one a:0")

    def test_the_only_kind(self):
        self.assert_no_change(Needed, None, Desk("a"), "unkind a")

    def test_ten_kinds_and_216_calls(self):
        desk = Desk("a")
        for name in "bcdefghij":
            desk.say(f"kind {name}")
        self.assert_no_change(Full, None, desk, "kind k")
        self.assert_no_change(Full, None, desk, "deed do 3")
        self.assertEqual(desk.say("kind j < a b c d"), "-")
        for name in ("da", "db", "dc", "dd"):
            desk.say(f"deed {name} 2")
        self.assert_no_change(Full, None, desk, "deed de 1")


class TestWhole(DeskCase):

    def test_beside_a_hall(self):
        counts = {}
        for seed in range(40):
            changes, hall, desk, plain = Changes(300 + seed), Hall("a"), Desk("a"), PlainHall("a")
            for _ in range(80):
                word, things = changes.change(hall.program())
                row = row_of(word, things)
                if not is_row(row):
                    # A place that no deed has makes a step for a hall, but no row.
                    self.assertEqual(outcome(desk.say, row), ("NoRow", None))
                    continue
                told = outcome(getattr(hall, word), *things)
                self.assertEqual(plain_outcome(getattr(plain, word), *things), told)
                refused = isinstance(told, tuple) and isinstance(told[0], str) and told[0][0].isupper()
                self.assertEqual(outcome(desk.say, row), told if refused else text_of(word, told), row)
                self.assertEqual(desk.say("show") + "\n", shown(hall.program()))
                self.assertEqual(desk.say("kept"), call_words([(deed, call) for deed, call, _ in hall.kept()]))
                self.assertEqual(desk.say("reckoned"), str(hall.reckoned()))
                counts[word, refused] = counts.get((word, refused), 0) + 1
            self.ask_all(desk, hall.program(), seed)
        words = ["kind", "deed", "rule", "drop", "unkind", "ask", "run"]
        self.assertGreater(min(counts[one] for one in itertools.product(words, (True, False))), 10)

    def ask_all(self, desk, program, seed):
        """All other rows, beside what the stages tell of the program."""
        for name, places, rules in program[1]:
            book = book_in(program, name)
            for call in some_calls(book, 6, seed):
                arms = [arm if isinstance(arm, str) else "+".join(arm) for arm in call]
                # An arm of one name is written as the name.
                self.assertEqual(desk.say(" ".join(["best", name, *arms])), answer_words(answer_of(book, call)))
                names, end = chain(book, call)
                self.assertEqual(desk.say(" ".join(["chain", name, *arms])), " ".join(names + ["then", answer_words(end)]))
                for rule in [one for one, _, _ in rules] + ["x"]:
                    told = outcome(onward, book, call, rule)
                    text = told if told[0] in ("NoRule", "NoFit") else answer_words(told)
                    self.assertEqual(outcome(desk.say, " ".join(["onward", name, rule, *arms])), text)
            self.ask_book(desk, name, book, seed)
            for kinds in itertools.islice(itertools.product([kind for kind, _ in book[0]], repeat=places), 9):
                things = [(kind, 5) for kind in kinds]
                told = outcome(machine, program, name, things)
                text = told if isinstance(told[0], str) else text_of("run", told)
                self.assertEqual(outcome(desk.say, row_of("run", (name, things)).replace("run", "machine", 1)), text)
                self.assertEqual(outcome(desk.say, row_of("run", (name, things))), text)

    def ask_book(self, desk, name, book, seed):
        for sort in some_sorts(book[0], seed):
            told = quarrel(book, sort)
            row = " ".join(["free", name] + ["+".join(bundle) for bundle in sort])
            if told is None:
                self.assertEqual(desk.say(row), "free")
            else:
                arms = [arm if isinstance(arm, str) else "+".join(arm) for arm in told[0]]
                self.assertEqual(desk.say(row), " ".join(["quarrel", *told[1], "at", *arms]))
        self.assertEqual(desk.say(f"enders {name}"), words_of([".".join(kinds) for kinds in enders(book)]))
        groups = pressed(book)[0]
        self.assertEqual(desk.say(f"groups {name}"), " ".join(".".join(str(number) for number in row) for row in groups))
        self.assertEqual(desk.say(f"order {name}"), " ".join(str(place) for place in best_order(book)))
        for place in range(book[1]):
            self.assertEqual(desk.say(f"depth {name} {place}"), str(depth_of(tree_of(book[0], groups[place]))))

    def test_two_desks(self):
        one, other = Desk("a"), Desk("a")
        one.say("kind b < a")
        self.assertEqual(other.say("show"), "kind a")


if __name__ == "__main__":
    unittest.main()
