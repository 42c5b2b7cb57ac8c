"""A hall: a program that is changed, and the answers that are kept of it."""

from bestcalls.answers import answer_of
from bestcalls.books import names_in_call
from bestcalls.changes import altered, first_program, with_deed, with_kind, with_rule, without_kind, without_rule
from bestcalls.programs import book_in, copy_of_deed
from bestcalls.walker import run_asking
from bestcalls.webs import copy_of_web


class Hall:
    """A program, the answers kept by deed and call, and the number of calls that were not kept when asked."""

    def __init__(self, kind):
        self.script = first_program(kind)
        self.answers = {}
        self.misses = 0

    def turn_to(self, behind):
        """Change to the program behind; told is what this altered."""
        told = altered(self.script, behind)
        for deed, call, old, new in told:
            if (deed, call) in self.answers:
                self.answers[(deed, call)] = new
        self.script = behind
        return told

    def kind(self, name, elders):
        """Put in a kind, or tell it anew; told is what this altered."""
        return self.turn_to(with_kind(self.script, name, elders))

    def deed(self, name, places):
        """Put in a deed; told is what this altered."""
        return self.turn_to(with_deed(self.script, name, places))

    def rule(self, deed, name, kinds, steps):
        """Put in a rule of a deed, or tell it anew; told is what this altered."""
        return self.turn_to(with_rule(self.script, deed, name, kinds, steps))

    def drop(self, deed, name):
        """Take out a rule of a deed; told is what this altered."""
        return self.turn_to(without_rule(self.script, deed, name))

    def unkind(self, name):
        """Take out a kind, and the kept answers of calls that have it; told is what this altered."""
        told = self.turn_to(without_kind(self.script, name))
        for deed, call in list(self.answers):
            if name in names_in_call(call):
                del self.answers[(deed, call)]
        return told

    def program(self):
        """The program, with lists of its own."""
        web, deeds = self.script
        return (copy_of_web(web), [copy_of_deed(deed) for deed in deeds])

    def keep(self, deed, call, answer):
        """Keep the answer of a call that is asked."""
        if (deed, call) not in self.answers:
            self.answers[(deed, call)] = answer
            self.misses += 1

    def ask(self, deed, call):
        """The answer of a call of names of the deed, which is kept."""
        answer = answer_of(book_in(self.script, deed), call)
        self.keep(deed, call, answer)
        return answer

    def kept(self):
        """A list of (deed, call, answer), by when they came to be kept."""
        return [(deed, call, self.answers[(deed, call)]) for deed, call in self.answers]

    def reckoned(self):
        """The number of calls asked so far that were not kept when they were asked."""
        return self.misses

    def run(self, deed, things):
        """The sum of a run of the deed with the things, and a list of (deed, rule) for each run; calls are asked."""
        told, asked = run_asking(self.script, deed, things)
        # Only now, since a run that is refused keeps nothing.
        for name, call, answer in asked:
            self.keep(name, call, answer)
        return told
