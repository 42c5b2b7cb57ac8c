"""Texts read to the programs that they are written of."""

from bestcalls.errors import NoText
from bestcalls.programs import is_program
from bestcalls.texts import shown

MOST_FIGURES = 30


def number_in(word):
    """The number that the word says, perhaps with noughts ahead; None where it says none, or one too long."""
    figures = word.removeprefix("-")
    if not figures.isascii() or not figures.isdigit() or len(figures) > MOST_FIGURES:
        return None
    return int(word)


def pick_in(word):
    """The pick that the word says, right or not."""
    kind, sign, figure = word.partition(":")
    if sign:
        return ("new", kind, number_in(figure))
    return ("own", number_in(word))


def step_in(text):
    """The step that the text says, right or not."""
    words = text.split(" ")
    if words[0] in ("say", "tell"):
        return tuple(words[:1] + [number_in(word) for word in words[1:]])
    if words[0] == "call":
        return tuple(words[:2] + [[pick_in(word) for word in words[2:]]])
    return tuple(words)


def put_kind(web, line):
    """Put the kind that the line says, right or not, into the web."""
    head, sign, tail = line.removeprefix("kind ").partition(" < ")
    web.append((head, tail.split(" ") if sign else []))


def put_deed(deeds, line):
    """Put the deed that the line says, right or not, behind the deeds."""
    name, sign, places = line.removeprefix("deed ").partition(" ")
    deeds.append((name, number_in(places), []))


def put_rule(deeds, line):
    """Put the rule that the line says, right or not, behind those of its deed, where there is such a deed."""
    head, sign, tail = line.partition(" = ")
    words = head.split(" ")
    if len(words) < 3:
        return
    steps = [step_in(text) for text in tail.split(", ")] if sign else []
    homes = [rules for name, places, rules in deeds if name == words[1]]
    if homes:
        homes[0].append((words[2], tuple(words[3:]), steps))


def put_line(web, deeds, line):
    """Put what the line says, right or not, where it belongs in a program."""
    if line.startswith("kind "):
        put_kind(web, line)
    elif line.startswith("deed "):
        put_deed(deeds, line)
    elif line.startswith("rule "):
        put_rule(deeds, line)


def is_written(program, lines):
    """Whether something is a program whose text has just these lines."""
    return is_program(program) and shown(program) == "".join([f"{line}\n" for line in lines])


def read(text):
    """The program that the text is written of; refused with NoText, at the number of the first wrong line."""
    if not isinstance(text, str) or not text:
        raise NoText(0)
    *lines, rest = text.split("\n")
    web, deeds = [], []
    for number, line in enumerate(lines):
        put_line(web, deeds, line)
        # The lines up to each one of a program's text are a program's text, too, so each one is looked at in turn.
        if not is_written((web, deeds), lines[:number + 1]):
            raise NoText(number)
    if rest:
        raise NoText(len(lines))
    return (web, deeds)
