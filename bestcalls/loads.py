"""Trees of the least load, and price papers that none has a lesser one."""

from bestcalls.questions import all_led, are_labelled_alike, best_tree, by_name, least_costs, splits
from bestcalls.stubborn import are_lines
from bestcalls.webs import names_of, roofs_of


def weight_of_kinds(weight_of, kinds):
    """The weights of the kinds, added up."""
    return sum([weight_of[kind] for kind in kinds])


def load_cost(web, weights):
    """A function for the load of a question over trees of these loads."""
    weight_of = by_name(web, weights)
    return lambda kinds, high, low: weight_of_kinds(weight_of, kinds) + high + low


def light(web, labels, weights):
    """A tree of the least load that tells the labels."""
    return best_tree(web, labels, load_cost(web, weights))


def load_of(web, tree, weights):
    """The load of the tree: each kind's weight times the number of questions that it is asked."""
    return sum([weight * count for weight, (label, count) in zip(weights, all_led(web, tree))])


def prices(web, labels, weights):
    """A price paper with the light tree's load as its first price."""
    known = least_costs(web, labels, load_cost(web, weights))
    whole = tuple(names_of(web))
    # Sets whose labels are all alike need not stand there; halves are smaller than what they are halves of.
    told = [kinds for kinds in known if known[kinds][1] is not None or kinds == whole]
    return [(list(kinds), known[kinds][0]) for kinds in sorted(told, key=len, reverse=True)]


def price_behind(label_of, lines, number, kinds):
    """The price of the kinds that stand behind the line of this number; None where they need to and don't."""
    if are_labelled_alike(label_of, kinds):
        return 0
    if kinds not in lines or lines[kinds][0] < number:
        return None
    return lines[kinds][1]


def is_fair(roofs, label_of, weight, lines, kinds):
    """Whether the price of the kinds is 0 where their labels are alike, else no more than any question makes it.

    A question makes it the weight of the kinds and the prices of both halves.
    """
    number, price = lines[kinds]
    if are_labelled_alike(label_of, kinds):
        return price == 0
    for asked, those, others in splits(roofs, kinds):
        high = price_behind(label_of, lines, number, those)
        low = price_behind(label_of, lines, number, others)
        if high is None or low is None or price > weight + high + low:
            return False
    return True


def is_prices(web, labels, weights, paper):
    """Whether something, whatever it is, is a price paper for the labels and weights."""
    if not are_lines(names_of(web), paper):
        return False
    lines = {tuple(kinds): (number, price) for number, (kinds, price) in enumerate(paper)}
    if len(lines) != len(paper):
        return False
    roofs = roofs_of(web)
    label_of = by_name(web, labels)
    weight_of = by_name(web, weights)
    return all([is_fair(roofs, label_of, weight_of_kinds(weight_of, kinds), lines, kinds) for kinds in lines])
