"""Walks from level to level, by the kinds of a call at one place after the other, to its answer."""

from bestcalls.answers import answer_of
from bestcalls.books import check_call
from bestcalls.same import numbered, products, same
from bestcalls.webs import names_of


def call_along(order, kinds):
    """The call that has these kinds at the places of the order."""
    at = dict(zip(order, kinds))
    return tuple([at[place] for place in range(len(order))])


def answers_along(book, order):
    """The answers of all calls of names, the kind at the last place of the order changing first."""
    rows = [names_of(book[0])] * len(order)
    return [answer_of(book, call_along(order, kinds)) for kinds in products(rows)]


def cut(row, count):
    """The row cut into so many parts, all of one length."""
    length = len(row) // count
    return [row[length * number:length * (number + 1)] for number in range(count)]


def walk_of(book, order):
    """The book's walk for the order: its levels, of nodes and at last of answers."""
    count = len(book[0])
    # A node is known by the answers that are still open there: where they are the same, so are the nodes.
    open_rows = [answers_along(book, order)]
    walk = []
    for place in order:
        parts = [part for row in open_rows for part in cut(row, count)]
        numbers = numbered(parts)
        walk.append(cut(numbers, len(open_rows)))
        open_rows = [parts[numbers.index(number)] for number in range(max(numbers) + 1)]
    walk.append([row[0] for row in open_rows])
    return walk


def walked(web, walk, order, call):
    """The answer that a call of names comes to by the walk for the order."""
    check_call(web, len(order), call)
    names = names_of(web)
    node = 0
    for level, place in zip(walk, order):
        node = level[node][names.index(call[place])]
    return walk[-1][node]


def is_walk(book, order, thing):
    """Whether something, whatever it is, is the book's walk for the order."""
    return same(thing, walk_of(book, order))


def all_orders(places):
    """All orders of so many places, the first ones first by their places from the left."""
    return [list(order) for order in products([list(range(places))] * places) if len(set(order)) == places]


def count_nodes(walk):
    """The number of nodes of a walk, added up over its levels."""
    return sum([len(level) for level in walk])


def best_order(book):
    """The first of the orders whose walks have the fewest nodes."""
    return min(all_orders(book[1]), key=lambda order: count_nodes(walk_of(book, order)))
