"""Guides: the walk of a book with a tree of questions at each node."""

from bestcalls.books import check_call
from bestcalls.questions import depth_of, led, tells, tree_of
from bestcalls.same import same
from bestcalls.walks import walk_of


def guide_of(book, order):
    """The guide of the book for the order: (order, levels of trees, answers)."""
    *levels, answers = walk_of(book, order)
    return (list(order), [[tree_of(book[0], node) for node in level] for level in levels], answers)


def guided(web, guide, call):
    """The answer to which the call of names is led, and the number of questions asked."""
    order, levels, answers = guide
    check_call(web, len(order), call)
    node = 0
    total = 0
    for level, place in zip(levels, order):
        node, count = led(web, level[node], call[place])
        total += count
    return (answers[node], total)


def is_least_tree(web, labels, thing):
    """Whether something is a tree of the least depth that tells the labels."""
    return tells(web, labels, thing) and depth_of(thing) == depth_of(tree_of(web, labels))


def are_least_trees(web, level, thing):
    """Whether something is a list with such a tree for each node of the walk's level."""
    if not isinstance(thing, list) or len(thing) != len(level):
        return False
    return all([is_least_tree(web, node, tree) for node, tree in zip(level, thing)])


def is_guide(book, order, thing):
    """Whether something, whatever it is, is a guide of the book for the order."""
    if not isinstance(thing, tuple) or len(thing) != 3:
        return False
    *levels, answers = walk_of(book, order)
    if not same(thing[0], order) or not same(thing[2], answers):
        return False
    if not isinstance(thing[1], list) or len(thing[1]) != len(levels):
        return False
    return all([are_least_trees(book[0], level, trees) for level, trees in zip(levels, thing[1])])
