"""All answers of a book, pressed into a table of groups of kinds."""

from bestcalls.answers import answer_of
from bestcalls.books import calls_of_names, check_call
from bestcalls.same import cell_at, firsts_of, numbered, products, same
from bestcalls.webs import check_kinds, names_of


def all_calls(book):
    """All calls of names, by the web's order place by place, the last place changing first."""
    web, places, rules = book
    return calls_of_names(web, places)


def all_answers(book):
    """The answers of all calls of names, in the order of these."""
    return [answer_of(book, call) for call in all_calls(book)]


def answers_with(book, place, kind):
    """The answers of all calls of names that have the kind at the place, in the order of these."""
    return [answer_of(book, call) for call in all_calls(book) if call[place] == kind]


def parted(book, place, kind, other):
    """The first call with the kind at the place whose answer is another one with the other kind there, or None."""
    check_kinds(book[0], [kind, other])
    for call in all_calls(book):
        exchanged = call[:place] + (other,) + call[place + 1:]
        if call[place] == kind and answer_of(book, call) != answer_of(book, exchanged):
            return call
    return None


def alike(book, place, kind, other):
    """Whether exchanging the one kind for the other at the place changes no answer of a call of names."""
    return parted(book, place, kind, other) is None


def pressed(book):
    """The pressed book: at each place the groups of kinds that are alike, and the answers for groups."""
    web, places, rules = book
    names = names_of(web)
    groups = [numbered([answers_with(book, place, name) for name in names]) for place in range(places)]
    firsts = [firsts_of(names, row) for row in groups]
    return (groups, [answer_of(book, call) for call in products(firsts)])


def chosen(web, pressing, call):
    """The answer that the pressing chooses for a call of names."""
    groups, answers = pressing
    check_call(web, len(groups), call)
    return cell_at(names_of(web), groups, answers, call)


def is_pressed(book, thing):
    """Whether something, whatever it is, is the pressed book."""
    return same(thing, pressed(book))
