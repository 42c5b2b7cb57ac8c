"""Programs run by a walker, which goes from each run into the runs that it calls and back again."""

from bestcalls.answers import answer_of
from bestcalls.errors import NoCall, NoFit, Quarrel, TooDeep, TooLong
from bestcalls.onward import onward
from bestcalls.programs import book_in, deed_in, steps_in
from bestcalls.webs import check_kinds

MOST_BEGUN = 400
MOST_LASTING = 40


def kinds_of(things):
    """The tuple of the things' kinds."""
    return tuple([kind for kind, figure in things])


def picked(things, picks):
    """The tuple of things that a run with these things picks."""
    return tuple([things[pick[1]] if pick[0] == "own" else pick[1:] for pick in picks])


def check_asked(program, deed, things):
    """Refuse what is handed in with NoDeed, then with NoCall, then with NoKind."""
    places, rules = deed_in(program, deed)
    if len(things) != places:
        raise NoCall(None)
    check_kinds(program[0], kinds_of(things))


def rule_by(deed, kinds, answer):
    """The rule that the answer chooses; refused with NoFit or with Quarrel where it chooses none."""
    if answer[0] == "none":
        raise NoFit((deed, kinds))
    if answer[0] == "quarrel":
        raise Quarrel((deed, kinds, answer[1]))
    return answer[1]


class Walker:
    """All runs of one asking: those met, the calls asked, the steps begun and the runs that last, so far."""

    def __init__(self, script):
        self.script = script
        self.met = []
        self.asked = []
        self.begun = 0
        self.lasting = 0

    def sum_of_call(self, deed, things):
        """The sum of a run of the deed with the things, by the rule that is the answer."""
        kinds = kinds_of(things)
        answer = answer_of(book_in(self.script, deed), kinds)
        self.asked.append((deed, kinds, answer))
        return self.sum_of_run(deed, things, rule_by(deed, kinds, answer))

    def sum_of_onward(self, deed, things, rule):
        """The sum of a run by the answer onward from the rule, 0 where this is none."""
        kinds = kinds_of(things)
        answer = onward(book_in(self.script, deed), kinds, rule)
        if answer[0] == "none":
            return 0
        return self.sum_of_run(deed, things, rule_by(deed, kinds, answer))

    def sum_of_run(self, deed, things, rule):
        """The sum of a run by the rule."""
        if self.lasting >= MOST_LASTING:
            raise TooDeep(None)
        self.met.append((deed, rule))
        self.lasting += 1
        total = 0
        for step in steps_in(self.script, deed, rule):
            total += self.sum_of_step(deed, things, rule, step)
        self.lasting -= 1
        return total

    def sum_of_step(self, deed, things, rule, step):
        """What a step of a run gives."""
        if self.begun >= MOST_BEGUN:
            raise TooLong(None)
        self.begun += 1
        if step[0] == "say":
            return step[1]
        if step[0] == "tell":
            return things[step[1]][1]
        if step[0] == "call":
            return self.sum_of_call(step[1], picked(things, step[2]))
        return self.sum_of_onward(deed, things, rule)


def run_asking(program, deed, things):
    """What run tells, and a list of (deed, kinds, answer) for each call, as they were asked."""
    check_asked(program, deed, things)
    walker = Walker(program)
    total = walker.sum_of_call(deed, things)
    return ((total, walker.met), walker.asked)


def run(program, deed, things):
    """The sum of a run of the deed with the things, and a list of (deed, rule) for each run, as they began."""
    told, asked = run_asking(program, deed, things)
    return told
