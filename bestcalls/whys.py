"""Papers that show why an answer is the call's."""

from bestcalls.answers import answer_by, nearest_of, rule_names, rules_that_fit
from bestcalls.books import fits_under, is_nearer, roofs_in_call
from bestcalls.webs import is_whole, roofs_of


def why_out(kinds, call_roofs):
    """The line of a rule that does not fit, with the first place where it does not."""
    places = [place for place, kind in enumerate(kinds) if kind not in call_roofs[place]]
    return ("out", places[0])


def why_in(roofs, fit, kinds):
    """The line of a rule that fits."""
    names = [name for name, others in fit if is_nearer(roofs, others, kinds)]
    if names:
        return ("far", names[0])
    return ("near",)


def why(book, call):
    """A paper for the call and its answer."""
    fit = rules_that_fit(book, call)
    web, places, rules = book
    roofs = roofs_of(web)
    call_roofs = roofs_in_call(roofs, call)
    paper = []
    for name, kinds in rules:
        if fits_under(kinds, call_roofs):
            paper.append(why_in(roofs, fit, kinds))
        else:
            paper.append(why_out(kinds, call_roofs))
    return paper


def is_out(kinds, call_roofs, thing):
    """Whether something is a place where the call's arm does not stand on the rule's kind."""
    if not is_whole(thing) or not 0 <= thing < len(kinds):
        return False
    return kinds[thing] not in call_roofs[thing]


def is_farther(roofs, fit, kinds, thing):
    """Whether something is the name of a rule that fits and is nearer than these kinds."""
    return any([name == thing and is_nearer(roofs, others, kinds) for name, others in fit])


def is_line(roofs, call_roofs, fit, rule, thing):
    """Whether something is a right line of a paper for the rule."""
    if not isinstance(thing, tuple):
        return False
    kinds = rule[1]
    if len(thing) == 2 and thing[0] == "out":
        return is_out(kinds, call_roofs, thing[1])
    if rule not in fit:
        return False
    if len(thing) == 2 and thing[0] == "far":
        return is_farther(roofs, fit, kinds, thing[1])
    return thing == ("near",)


def shows(book, call, answer, paper):
    """Whether the paper, whatever it is, shows that the answer, whatever it is, is the call's."""
    fit = rules_that_fit(book, call)
    web, places, rules = book
    if not isinstance(paper, list) or len(paper) != len(rules):
        return False
    roofs = roofs_of(web)
    call_roofs = roofs_in_call(roofs, call)
    if not all([is_line(roofs, call_roofs, fit, rule, line) for rule, line in zip(rules, paper)]):
        return False
    near = [rule for rule, line in zip(rules, paper) if line == ("near",)]
    return nearest_of(roofs, near) == near and answer == answer_by(rule_names(near))
