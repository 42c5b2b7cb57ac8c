"""The tables of a program, by which the machine chooses."""

from bestcalls.answers import answer_of, fitting
from bestcalls.onward import onward
from bestcalls.programs import book_in
from bestcalls.same import firsts_of, numbered, products
from bestcalls.webs import names_of, roofs_of


def groups_at(web, asked):
    """For each kind the number of its group: of one group are those that stand on the same of the asked kinds."""
    roofs = roofs_of(web)
    return numbered([[kind in roofs[name] for kind in asked] for name in names_of(web)])


def cell_for(book, call):
    """The answer for the call, and for each rule that fits the answer onward from it."""
    return (answer_of(book, call), [(name, onward(book, call, name)) for name in fitting(book, call)])


def table_of(name, book):
    """The table of a deed with this name and this book."""
    web, places, rules = book
    groups = [groups_at(web, [kinds[place] for rule, kinds in rules]) for place in range(places)]
    # All kinds of a group have the same rules that fit, so the first one speaks for all.
    firsts = [firsts_of(names_of(web), row) for row in groups]
    return (name, groups, [cell_for(book, call) for call in products(firsts)])


def tables_of(program):
    """For each deed of the program a tuple (name, groups, cells)."""
    return [table_of(name, book_in(program, name)) for name, places, rules in program[1]]
