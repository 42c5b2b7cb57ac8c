"""A desk: a hall that is told rows, and answers each with a text."""

from bestcalls.answers import answer_of
from bestcalls.enders import enders
from bestcalls.errors import NoCall
from bestcalls.free import quarrel
from bestcalls.hall import Hall
from bestcalls.machine import machine
from bestcalls.onward import chain, onward
from bestcalls.pressed import pressed
from bestcalls.programs import book_in
from bestcalls.questions import depth_of, tree_of
from bestcalls.rows import row_in
from bestcalls.texts import shown
from bestcalls.walks import best_order
from bestcalls.webs import check_kinds, names_in


def parted_by_blanks(words):
    """The words, parted by single blanks, or - where there are none."""
    return " ".join(words) if words else "-"


def call_word(deed, call):
    """The word of a call of names of the deed."""
    return f"{deed}:" + ".".join(call)


def arm_word(arm):
    """The word of an arm."""
    return "+".join(names_in(arm))


def answer_words(answer):
    """The words of an answer."""
    if answer[0] == "quarrel":
        return ["quarrel"] + list(answer[1])
    return list(answer)


def altered_text(altered):
    """A word for each call that a change altered."""
    return parted_by_blanks([call_word(deed, call) for deed, call, ahead, behind in altered])


def answer_text(answer):
    """An answer as it is told."""
    return parted_by_blanks(answer_words(answer))


def run_text(told):
    """The sum of a run, and a word for each run."""
    total, met = told
    return parted_by_blanks([str(total)] + [f"{deed}.{rule}" for deed, rule in met])


def book_of_deed(hall, names):
    """The book of the deed that the first of the names is."""
    return book_in(hall.program(), names[0])


def say_kind(hall, names, elders):
    """Put in a kind, or tell it anew."""
    return altered_text(hall.kind(names[0], elders))


def say_deed(hall, names, places):
    """Put in a deed."""
    return altered_text(hall.deed(names[0], places))


def say_rule(hall, names, tail):
    """Put in a rule, or tell it anew."""
    kinds, steps = tail
    return altered_text(hall.rule(names[0], names[1], kinds, steps))


def say_drop(hall, names, tail):
    """Take out a rule."""
    return altered_text(hall.drop(names[0], names[1]))


def say_unkind(hall, names, tail):
    """Take out a kind."""
    return altered_text(hall.unkind(names[0]))


def say_ask(hall, names, call):
    """The answer by the hall."""
    return answer_text(hall.ask(names[0], call))


def say_best(hall, names, call):
    """The answer by the deed's book."""
    return answer_text(answer_of(book_of_deed(hall, names), call))


def say_onward(hall, names, call):
    """The answer onward from a rule."""
    return answer_text(onward(book_of_deed(hall, names), call, names[1]))


def say_chain(hall, names, call):
    """The names of the chain, and its end."""
    rules, end = chain(book_of_deed(hall, names), call)
    return parted_by_blanks(rules + ["then"] + answer_words(end))


def say_kept(hall, names, tail):
    """A word for each call that is kept."""
    return parted_by_blanks([call_word(deed, call) for deed, call, answer in hall.kept()])


def say_reckoned(hall, names, tail):
    """The number of calls reckoned."""
    return str(hall.reckoned())


def say_run(hall, names, things):
    """A run by the hall."""
    return run_text(hall.run(names[0], things))


def say_machine(hall, names, things):
    """A run by the machine."""
    return run_text(machine(hall.program(), names[0], things))


def say_free(hall, names, sort):
    """Whether the deed's book is free for the sort, or the least quarrel."""
    book = book_of_deed(hall, names)
    check_kinds(book[0], [kind for bundle in sort for kind in bundle])
    told = quarrel(book, sort)
    if told is None:
        return "free"
    call, rules = told
    return parted_by_blanks(["quarrel"] + list(rules) + ["at"] + [arm_word(arm) for arm in call])


def say_enders(hall, names, tail):
    """A word for each of the enders."""
    return parted_by_blanks([".".join(kinds) for kinds in enders(book_of_deed(hall, names))])


def say_groups(hall, names, tail):
    """A word for each place of the pressed book."""
    groups, answers = pressed(book_of_deed(hall, names))
    return parted_by_blanks([".".join([str(number) for number in row]) for row in groups])


def say_order(hall, names, tail):
    """The places of the best order."""
    return parted_by_blanks([str(place) for place in best_order(book_of_deed(hall, names))])


def say_depth(hall, names, place):
    """The least depth for the groups of a place of the pressed book as labels."""
    book = book_of_deed(hall, names)
    if place >= book[1]:
        raise NoCall(None)
    groups, answers = pressed(book)
    return str(depth_of(tree_of(book[0], groups[place])))


def say_show(hall, names, tail):
    """The program's text, without the last line end."""
    return shown(hall.program()).removesuffix("\n")


SAYINGS = {
    "kind": say_kind, "deed": say_deed, "rule": say_rule, "drop": say_drop, "unkind": say_unkind, "ask": say_ask,
    "best": say_best, "onward": say_onward, "chain": say_chain, "kept": say_kept, "reckoned": say_reckoned,
    "run": say_run, "machine": say_machine, "free": say_free, "enders": say_enders, "groups": say_groups,
    "order": say_order, "depth": say_depth, "show": say_show,
}


class Desk:
    """A hall that is told rows."""

    def __init__(self, kind):
        self.hall = Hall(kind)

    def say(self, row):
        """What the hall tells to the row; refused with NoRow where this is none, then as the hall does."""
        word, names, tail = row_in(row)
        saying = SAYINGS[word]
        return saying(self.hall, names, tail)
