"""[40]: texts read to programs."""

import re
import unittest

from bestcalls.errors import NoText
from bestcalls.programs import is_program
from bestcalls.reader import read
from bestcalls.texts import shown
from helper import ANYTHING, Refusals, some_programs
from samples import FULL, MOST, ONWARD, ladder, long_and_deep, outcome
from test_texts import PROGRAM, TEXT

NAME = "[a-z]{1,8}"
FIGURE = "(?:0|-?[1-9][0-9]{0,29})"
STEP = f"(?:say {FIGURE}|tell [0-2]|onward|call {NAME}(?: (?:[0-2]|{NAME}:{FIGURE}))+)"
KIND = re.compile(f"kind ({NAME})(?: < ({NAME}(?: {NAME})*))?")
DEED = re.compile(f"deed ({NAME}) ([123])")
RULE = re.compile(f"rule ({NAME}) ({NAME})((?: {NAME})+)(?: = ({STEP}(?:, {STEP})*))?")


class PlainReader:
    """[40] by patterns, with all that one line has to do with another said by hand."""

    def __init__(self):
        self.elders, self.places, self.rules = {}, {}, []

    def line(self, line):
        """Whether the line may stand next."""
        if KIND.fullmatch(line) and not self.places:
            return self.kind(*KIND.fullmatch(line).groups())
        if DEED.fullmatch(line) and self.elders and not self.rules:
            return self.deed(*DEED.fullmatch(line).groups())
        return bool(RULE.fullmatch(line)) and self.rule(*RULE.fullmatch(line).groups())

    def kind(self, name, elders):
        elders = elders.split() if elders else []
        if name in self.elders or len(self.elders) == 10 or len(elders) > 4 or len(set(elders)) < len(elders):
            return False
        if not set(elders) <= set(self.elders):
            return False
        self.elders[name] = elders
        return True

    def deed(self, name, places):
        if name in self.places or len(self.places) == 4 or len(self.elders) ** int(places) > 216:
            return False
        self.places[name] = int(places)
        return True

    def rule(self, deed, name, kinds, steps):
        kinds, order = kinds.split(), list(self.places)
        if deed not in order or len(kinds) != self.places[deed] or not set(kinds) <= set(self.elders):
            return False
        if any(order.index(other) > order.index(deed) for other, _, _ in self.rules):
            return False
        own = [(taken, others) for other, taken, others in self.rules if other == deed]
        if len(own) == 12 or any(taken == name or others == kinds for taken, others in own):
            return False
        steps = steps.split(", ") if steps else []
        if len(steps) > 6 or not all(self.step(self.places[deed], step.split()) for step in steps):
            return False
        self.rules.append((deed, name, kinds))
        return True

    def step(self, places, words):
        if words[0] == "tell":
            return int(words[1]) < places
        if words[0] == "call":
            if words[1] not in self.places or len(words) - 2 != self.places[words[1]]:
                return False
            return all(int(pick) < places if pick.isdigit() else pick.split(":")[0] in self.elders for pick in words[2:])
        return True


def plain_refused(text):
    """The number of the first wrong line, or None."""
    reader, lines = PlainReader(), text.split("\n")
    for number, line in enumerate(lines[:-1]):
        if not reader.line(line):
            return number
    return len(lines) - 1 if lines[-1] or len(lines) == 1 else None


def replaced(text, number, line):
    """The text with another line in the place of the one of this number; None takes it out."""
    lines = text.split("\n")
    return "\n".join(lines[:number] + ([] if line is None else [line]) + lines[number + 1:])


class TestRead(unittest.TestCase, Refusals):

    def assert_read(self, text):
        """The text is read to a program whose text it is, or refused where the plain reader refuses it."""
        at = plain_refused(text)
        told = outcome(read, text)
        if at is None:
            self.assertIs(is_program(told), True, text)
            self.assertEqual(shown(told), text)
        else:
            self.assertEqual(told, ("NoText", at), text)
        return at

    def test_read(self):
        self.assertEqual(read(TEXT), PROGRAM)
        self.assertEqual(read(text=TEXT), PROGRAM)
        self.assertEqual(read("kind a\n"), ([("a", [])], []))
        self.assertEqual(read("kind a\ndeed do 3\n"), ([("a", [])], [("do", 3, [])]))
        self.assertEqual(read("kind a\ndeed do 1\nrule do r a\n"), ([("a", [])], [("do", 1, [("r", ("a",), [])])]))

    def test_what_is_written_is_read_to_the_same(self):
        programs = [FULL, ONWARD, ladder([]), ladder([("onward",)] * 6), long_and_deep(4)]
        for program in programs + some_programs(150, most=6, most_rules=12, most_steps=6, seed=51):
            text = shown(program)
            self.assertEqual(read(text), program)
            self.assertIsNone(plain_refused(text))

    def test_no_text_and_no_lines(self):
        for thing in ANYTHING + [b"kind a\n", ["kind a\n"], ("kind a\n",), {"kind a\n": 1}]:
            self.assert_refused(NoText, 0, read, thing)

    def test_no_last_line_end(self):
        self.assert_refused(NoText, 8, read, TEXT[:-1])
        self.assert_refused(NoText, 9, read, TEXT + "kind")
        self.assert_refused(NoText, 9, read, TEXT + " ")
        self.assert_refused(NoText, 9, read, TEXT + "rule last second bb a a")
        self.assert_refused(NoText, 0, read, "kind a")
        self.assert_refused(NoText, 1, read, "kind a\nkind b")
        self.assert_refused(NoText, 0, read, "kind A\nkind b")

    def test_empty_lines(self):
        for text, at in (("\n", 0), ("\n\n", 0), ("\nkind a\n", 0), ("kind a\n\n", 1), ("kind a\n\nkind b\n", 1),
                         (TEXT + "\n", 9)):
            self.assert_refused(NoText, at, read, text)

    def test_every_line_up_to_the_first_wrong_one(self):
        lines = TEXT.split("\n")[:-1]
        for number in range(1, len(lines) + 1):
            text = "".join(line + "\n" for line in lines[:number])
            self.assertEqual(shown(read(text)), text)
            for wrong in ("", " ", "x", "kind", "kind ", "deed", "deed ", "rule", "rule ", "rule do", "rule = say 1",
                          "rule  = say 1", "rule do = say 1", "onward", "kind a < ", "\t", "\tkind a"):
                self.assert_refused(NoText, number, read, text + wrong + "\n" + TEXT)

    def test_kind_lines(self):
        right = ["kind d", "kind abcdefgh", "kind d < a", "kind d < c a bb", "kind kind < bb"]
        wrong = [
            "kind  d", "kind d ", " kind d", "kind d <", "kind d < ", "kind d <  a", "kind d < a ", "kind d < a  bb",
            "kind d  < a", "kind d < x", "kind d < d", "kind d < a a", "kind a", "kind abcdefghi", "kind D", "kind d1",
            "kind", "kind ", "kinds d", "Kind d", "kind d e", "kind d a", "kind d< a", "kind d <a", "kind d > a",
            "kind d < a, bb", "kind < a", "kind d < a < bb", "kind\td", "kind -", "d"]
        head = "kind a\nkind bb < a\nkind c < bb a\n"
        for line in right:
            self.assertIsNone(self.assert_read(head + line + "\n"), line)
        for line in wrong:
            self.assertEqual(self.assert_read(head + line + "\n"), 3, line)

    def test_four_elders_and_ten_kinds(self):
        head = "".join(f"kind {name}\n" for name in "abcde")
        self.assertIsNone(self.assert_read(head + "kind f < a b c d\n"))
        self.assertEqual(self.assert_read(head + "kind f < a b c d e\n"), 5)
        ten = "".join(f"kind {name}\n" for name in "abcdefghij")
        self.assertIsNone(self.assert_read(ten))
        self.assertEqual(self.assert_read(ten + "kind k\n"), 10)
        self.assertEqual(self.assert_read(ten + "kind k\nkind a\n"), 10)

    def test_deed_lines(self):
        right = ["deed a 1", "deed a 2", "deed a 3", "deed abcdefgh 1", "deed deed 1"]
        wrong = [
            "deed a 0", "deed a 4", "deed a 01", "deed a +1", "deed a -1", "deed a", "deed a ", "deed  a 1", "deed a  1",
            "deed a 1 ", "deed a 1 1", "deed a x", "deed A 1", "deed abcdefghi 1", "deed 1", "deed do 1", "deed a 1.0",
            "deed a 1_1", "Deed a 1", "deed a 10", "deed a " + "9" * 100]
        head = "kind a\nkind b\ndeed do 2\n"
        for line in right:
            self.assertIsNone(self.assert_read(head + line + "\n"), line)
        for line in wrong:
            self.assertEqual(self.assert_read(head + line + "\n"), 3, line)
        self.assertEqual(self.assert_read("deed do 1\n"), 0)

    def test_a_deed_too_many(self):
        head = "kind a\n" + "".join(f"deed {name} 1\n" for name in "abcd")
        self.assertIsNone(self.assert_read(head))
        self.assertEqual(self.assert_read(head + "deed e 1\n"), 5)

    def test_calls_of_names(self):
        six = "".join(f"kind {name}\n" for name in "abcdef")
        self.assertIsNone(self.assert_read(six + "deed do 3\n"))
        self.assertEqual(self.assert_read(six + "kind g\ndeed do 3\n"), 7)
        self.assertIsNone(self.assert_read(six + "kind g\ndeed do 2\n"))

    def test_rule_lines(self):
        head = "kind a\nkind b < a\ndeed do 2\ndeed go 1\nrule do r a b\n"
        right = ["rule do s a a", "rule go r a", "rule do rule b a", "rule do abcdefgh b b = onward"]
        wrong = [
            "rule do r a a", "rule do s a b", "rule do s a", "rule do s a b a", "rule do s", "rule do", "rule", "rule ",
            "rule do s a x", "rule no s a a", "rule do S a a", "rule do abcdefghi a a", "rule  do s a a", "rule do s a a ",
            "rule do s  a a", "rule do  s a a", "rule do s a a =", "rule do s a a = ", "rule do s a a  = onward",
            "rule do s a a =  onward", "rule do s a a= onward", "rule do s a a =onward", "rule do s a:1 a", "rule = onward",
            "rule do s a, a", "Rule do s a a", "rule do s a a = onward = onward", "rules do s a a"]
        for line in right:
            self.assertIsNone(self.assert_read(head + line + "\n"), line)
        for line in wrong:
            self.assertEqual(self.assert_read(head + line + "\n"), 5, line)

    def test_steps(self):
        head = "kind a\nkind b < a\ndeed do 2\ndeed go 1\nrule do s a a = "
        right = [
            "say 0", "say 10", "say -1", f"say {MOST}", f"say -{MOST}", "tell 0", "tell 1", "onward", "call go 0",
            "call go 1", "call go a:0", "call go b:-10", f"call go b:{MOST}", "call do 0 1", "call do a:1 b:2",
            "say 1, say 1", "onward, tell 0, call do 1 a:5, say 3", ", ".join(["onward"] * 6)]
        wrong = [
            "say", "say ", "say 00", "say 01", "say -0", "say -01", "say +1", "say --1", "say 1 1", "say a", "say 1.5",
            "say 1_0", f"say {MOST + 1}", f"say -{MOST + 1}", "say 0" + "1" * 30, "say " + "9" * 100, "say -", "say  1",
            "tell", "tell 2", "tell -1", "tell 00", "tell 01", "tell a", "tell 0 0", "tell a:1", "onward 1", "onwards",
            "Onward", "onward,", "onward, ", "onward,onward", "onward,  onward", "onward , onward", ", onward", ",",
            "say 1,say 1", "say 1 , say 1", "say 1; say 1",
            "call", "call ", "call go", "call go ", "call go 2", "call go 0 0", "call do 0", "call do 0 1 0", "call no 0",
            "call go -1", "call go 00", "call go a", "call go a:", "call go :1", "call go a:b", "call go x:1", "call go a:01",
            "call go a:-0", "call go a:+1", "call go a:1:1", "call go a::1", "call go a: 1", "call go a :1", "call  go 0",
            "call go  0", "call go a,0", f"call go a:{MOST + 1}", "call go 0,", ", ".join(["onward"] * 7), "onward go",
            "none", "", " ", "say 1 ", " say 1", "\tsay 1", "say\t1"]
        for steps in right:
            self.assertIsNone(self.assert_read(head + steps + "\n"), steps)
        for steps in wrong:
            self.assertEqual(self.assert_read(head + steps + "\n"), 4, steps)

    def test_a_rule_too_many(self):
        kinds = "".join(f"kind {name}\n" for name in "abcd")
        rules = [f"rule do r{one}{other} {one} {other}\n" for one in "abcd" for other in "abcd"]
        head = kinds + "deed do 2\ndeed go 2\n"
        self.assertIsNone(self.assert_read(head + "".join(rules[:12])))
        self.assertEqual(self.assert_read(head + "".join(rules[:13])), 6 + 12)
        self.assertIsNone(self.assert_read(head + "".join(rules[:12]) + "rule go r d d\n"))

    def test_in_another_order(self):
        lines = TEXT.split("\n")[:-1]
        met = set()
        for one in range(len(lines)):
            for other in range(len(lines)):
                order = lines[:]
                order.insert(other, order.pop(one))
                met.add(self.assert_read("".join(line + "\n" for line in order)))
        self.assertGreaterEqual(met, {None, 0, 1, 2, 3, 5, 6, 7, 8})
        self.assertEqual(self.assert_read("kind a\ndeed do 1\nkind b\n"), 2)
        self.assertEqual(self.assert_read("kind a\ndeed do 1\nrule do r a\ndeed go 1\n"), 3)
        self.assertEqual(self.assert_read("kind a\ndeed do 1\nrule do r a\nkind b\n"), 3)
        self.assertEqual(self.assert_read("kind a\ndeed a 1\ndeed b 1\nrule b r a\nrule a r a\n"), 4)

    def test_lines_doubled_and_left_out(self):
        lines = TEXT.split("\n")[:-1]
        for number, line in enumerate(lines):
            self.assertEqual(self.assert_read(replaced(TEXT, number, line + "\n" + line)), number + 1)
            self.assert_read(replaced(TEXT, number, None))
            self.assert_read(replaced(TEXT, number, line + " "))
            self.assert_read(replaced(TEXT, number, " " + line))

    def test_spoilt_in_one_sign(self):
        refused = read_anew = 0
        for text in (TEXT, shown(ONWARD)):
            for number in range(len(text)):
                for sign in ["", "a", "b", "d", "0", "1", "2", "9", " ", "-", ":", ",", "<", "=", "\n", "\t", "A", "~"]:
                    for spoilt in (text[:number] + sign + text[number + 1:], text[:number] + sign + text[number:]):
                        if spoilt != text:
                            at = self.assert_read(spoilt)
                            refused += at is not None
                            read_anew += at is None
        self.assertGreater(min(refused, read_anew), 100)

    def test_sixty_thousand_signs(self):
        for text, at in (("a" * 60000, 0), ("\n" * 60000, 0), ("kind a\n" + " " * 59993, 1), ("kind a\n" * 8571, 1),
                         ("kind a < " + "a " * 29995 + "\n", 0), ("kind a\ndeed do 1\nrule do r a = " + "onward, " * 7000, 2)):
            self.assert_refused(NoText, at, read, text)

    def test_figures_of_other_letters(self):
        self.assert_refused(NoText, 1, read, "kind a\ndeed do \u00b2\n")
        self.assert_refused(NoText, 1, read, "kind a\ndeed do \u0662\n")

    def test_the_askers_own(self):
        self.assert_untouched(read, TEXT)


if __name__ == "__main__":
    unittest.main()
