"""[39]: programs written as texts."""

import copy
import unittest

from bestcalls.texts import shown
from helper import Refusals, loose_web
from samples import FULL, MOST, ONWARD, WEB, ladder

PROGRAM = ([("a", []), ("bb", ["a"]), ("c", ["bb", "a"])], [
    ("do", 2, [
        ("first", ("a", "c"), [("say", -12), ("tell", 1), ("call", "go", [("own", 0)]), ("onward",)]),
        ("second", ("bb", "bb"), [])]),
    ("go", 1, []),
    ("last", 3, [("first", ("a", "a", "a"), [("call", "last", [("own", 2), ("new", "bb", -5), ("new", "c", MOST)])])])])

TEXT = f"""kind a
kind bb < a
kind c < bb a
deed do 2
deed go 1
deed last 3
rule do first a c = say -12, tell 1, call go 0, onward
rule do second bb bb
rule last first a a a = call last 2 bb:-5 c:{"9" * 30}
"""


class TestShown(unittest.TestCase, Refusals):

    def test_a_program(self):
        self.assertEqual(shown(PROGRAM), TEXT)
        self.assertEqual(shown(program=PROGRAM), TEXT)

    def test_small_programs(self):
        self.assertEqual(shown(([("a", [])], [])), "kind a\n")
        self.assertEqual(shown((loose_web(2), [("do", 1, [])])), "kind a\nkind b\ndeed do 1\n")
        self.assertEqual(shown((loose_web(1), [("do", 1, [("r", ("a",), [])])])), "kind a\ndeed do 1\nrule do r a\n")
        four = [("a", []), ("b", []), ("c", []), ("d", []), ("abcdefgh", ["d", "b", "c", "a"])]
        self.assertEqual(shown((four, [])), "kind a\nkind b\nkind c\nkind d\nkind abcdefgh < d b c a\n")

    def test_steps(self):
        cases = [
            (("say", 0), "say 0"), (("say", 7), "say 7"), (("say", -7), "say -7"), (("say", MOST), "say " + "9" * 30),
            (("say", -MOST), "say -" + "9" * 30), (("tell", 0), "tell 0"), (("tell", 2), "tell 2"), (("onward",), "onward"),
            (("call", "go", [("own", 2)]), "call go 2"), (("call", "go", [("new", "b", 0)]), "call go b:0"),
            (("call", "do", [("new", "b", -10), ("own", 0), ("new", "a", 10)]), "call do b:-10 0 a:10")]
        for step, words in cases:
            deeds = [("do", 3, [("r", ("a", "a", "b"), [step])]), ("go", 1, [])]
            text = f"kind a\nkind b\ndeed do 3\ndeed go 1\nrule do r a a b = {words}\n"
            self.assertEqual(shown((loose_web(2), deeds)), text)
            deeds = [("do", 3, [("r", ("a", "a", "b"), [step, ("onward",), step])]), ("go", 1, [])]
            self.assertEqual(shown((loose_web(2), deeds)), text[:-1] + f", onward, {words}\n")

    def test_rules_by_the_order_of_the_deeds(self):
        lines = shown(ladder([])).split("\n")
        self.assertEqual(len(lines), 6 + 4 + 40 + 1)
        self.assertEqual(lines[:3], ["kind t", "kind z", "kind p < t"])
        self.assertEqual(lines[6:11], ["deed da 2", "deed db 2", "deed dc 2", "deed dd 2", "rule da ra p p = call da p:1 q:1"])
        self.assertEqual(lines[-2:], ["rule dd rj r q", ""])

    def test_a_full_program(self):
        text = shown(FULL)
        self.assertEqual(len(text.split("\n")), 6 + 4 + 48 + 1)
        self.assertLessEqual(len(text), 60000)

    def test_the_askers_own(self):
        program = copy.deepcopy(ONWARD)
        self.assert_untouched(shown, program)

    def test_a_program_changed_between_two_askings(self):
        program = ([("a", []), ("b", [])], [("do", 1, [("r", ("a",), [])])])
        self.assertEqual(shown(program), "kind a\nkind b\ndeed do 1\nrule do r a\n")
        program[0][1][1].append("a")
        program[1][0][2][0][2].append(("onward",))
        self.assertEqual(shown(program), "kind a\nkind b < a\ndeed do 1\nrule do r a = onward\n")

    def test_somewhat_beyond_the_limits(self):
        program = (WEB, [("do", 4, [("r", ("a",) * 4, [("say", 10 ** 40)] * 7)])])
        self.assertTrue(shown(program).endswith("rule do r a a a a = " + ", ".join(["say 1" + "0" * 40] * 7) + "\n"))


if __name__ == "__main__":
    unittest.main()
