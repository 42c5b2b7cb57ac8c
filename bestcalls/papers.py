"""Free papers, which show that a book is free of quarrels."""

from bestcalls.errors import Quarrel
from bestcalls.free import meeting_calls, pairs_apart, quarrel
from bestcalls.sorts import arms_of


def free_paper(book, sort):
    """The free paper for the book and the sort; refused with Quarrel, at the least quarrel."""
    least = quarrel(book, sort)
    if least is not None:
        raise Quarrel(least)
    web, places, rules = book
    arms = arms_of(web, sort)
    # At a meet of two rules just a rule with the call's arms as its kinds is nearer than both.
    by = {kinds: name for name, kinds in rules}
    return [
        (one[0], other[0], call, by[call])
        for one, other in pairs_apart(arms, rules) for call in meeting_calls(arms, one[1], other[1])
    ]


def shows_free(book, sort, paper):
    """Whether the paper, whatever it is, is a free paper for the book and the sort."""
    try:
        # Each line is told by the two rules and the call, so no other paper is one.
        return paper == free_paper(book, sort)
    except Quarrel:
        return False
