"""Papers that no tree of a told depth or less tells the labels."""

from bestcalls.questions import are_labelled_alike, by_name, depth_cost, least_costs, splits
from bestcalls.webs import is_whole, names_of, roofs_of


def hard_halves(roofs, known, kinds, depth):
    """For each question that splits the kinds a half of them that no tree of a depth below this one tells."""
    told = []
    for asked, those, others in splits(roofs, kinds):
        told.append(those if known[those][0] >= depth else others)
    return told


def stubborn(web, labels):
    """A paper for the least depth less 1, or None where the least depth is 0."""
    roofs = roofs_of(web)
    known = least_costs(web, labels, depth_cost)
    layer = [tuple(names_of(web))]
    least = known[layer[0]][0]
    paper = []
    for depth in reversed(range(least)):
        paper.extend([(list(kinds), depth) for kinds in layer])
        layer = list({half: True for kinds in layer for half in hard_halves(roofs, known, kinds, depth)})
    return paper if least else None


def is_line(names, thing):
    """Whether something is (kinds, number): a list of the names, in their order, and a whole number from 0 on."""
    if not isinstance(thing, tuple) or len(thing) != 2:
        return False
    kinds, number = thing
    if not isinstance(kinds, list) or not is_whole(number) or number < 0:
        return False
    return kinds == [name for name in names if name in kinds]


def are_lines(names, thing):
    """Whether something is a list of such lines, the first one with all names."""
    if not isinstance(thing, list) or not all([is_line(names, line) for line in thing]):
        return False
    return len(thing) > 0 and thing[0][0] == names


def is_held(roofs, lasts, number, kinds, depth):
    """Whether for each question a line behind that of this number has a half of the kinds and the next lesser depth."""
    for asked, those, others in splits(roofs, kinds):
        if not any([lasts.get((half, depth - 1), -1) > number for half in (those, others)]):
            return False
    return True


def is_stubborn(web, labels, depth, paper):
    """Whether something, whatever it is, is a paper that no tree of this depth or less tells the labels."""
    if not are_lines(names_of(web), paper) or paper[0][1] != depth:
        return False
    roofs = roofs_of(web)
    label_of = by_name(web, labels)
    lasts = {(tuple(kinds), left): number for number, (kinds, left) in enumerate(paper)}
    for number, (kinds, left) in enumerate(paper):
        if are_labelled_alike(label_of, kinds):
            return False
        if left > 0 and not is_held(roofs, lasts, number, kinds, left):
            return False
    return True
