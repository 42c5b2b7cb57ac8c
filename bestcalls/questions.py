"""Trees of questions that tell the labels of kinds, of the least depth or cost."""

from bestcalls.webs import check_kinds, is_figure, is_whole, names_in, names_of, roof_of, roofs_of

MOST_NODES = 60


def by_name(web, row):
    """A dict with what the row has for each kind of the web."""
    return dict(zip(names_of(web), row))


def are_labelled_alike(label_of, kinds):
    """Whether no two of the kinds have unlike labels."""
    return len({label_of[kind] for kind in kinds}) <= 1


def splits(roofs, kinds):
    """For each kind on which some of the kinds stand and some don't: it, those that do and those that don't."""
    told = []
    for asked in roofs:
        those = tuple([kind for kind in kinds if asked in roofs[kind]])
        others = tuple([kind for kind in kinds if asked not in roofs[kind]])
        if those and others:
            told.append((asked, those, others))
    return told


def look_at(roofs, label_of, cost, kinds, known):
    """Put (least cost, best split or None) into known for the kinds and for each set that answers may leave of them."""
    if kinds in known:
        return
    if are_labelled_alike(label_of, kinds):
        known[kinds] = (0, None)
        return
    told = []
    for asked, those, others in splits(roofs, kinds):
        look_at(roofs, label_of, cost, those, known)
        look_at(roofs, label_of, cost, others, known)
        told.append((cost(kinds, known[those][0], known[others][0]), (asked, those, others)))
    known[kinds] = min(told, key=lambda pair: pair[0])


def least_costs(web, labels, cost):
    """For each set of kinds that answers may leave a tuple (least cost of telling their labels, best split or None).

    A set of which all labels are alike costs 0, any other one cost(kinds, cost of those, cost of others).
    """
    known = {}
    look_at(roofs_of(web), by_name(web, labels), cost, tuple(names_of(web)), known)
    return known


def nodes_from(known, label_of, kinds, first):
    """The nodes, numbered from first on, that tell the kinds' labels by the best splits known."""
    split = known[kinds][1]
    if split is None:
        return [("tell", label_of[kinds[0]])]
    asked, those, others = split
    yes = first + 1
    high = nodes_from(known, label_of, those, yes)
    no = yes + len(high)
    return [("ask", asked, yes, no)] + high + nodes_from(known, label_of, others, no)


def best_tree(web, labels, cost):
    """A tree of the least cost that tells the labels, each node of which is come to by some kind."""
    known = least_costs(web, labels, cost)
    return nodes_from(known, by_name(web, labels), tuple(names_of(web)), 0)


def depth_cost(kinds, high, low):
    """The depth of a question over trees of these depths."""
    return 1 + max(high, low)


def tree_of(web, labels):
    """A tree of the least depth that tells the labels."""
    return best_tree(web, labels, depth_cost)


def depth_of(tree):
    """The most questions on any way from the first node to a label."""
    depths = {}
    # Each node leads to nodes behind it, so the last ones are looked at first.
    for number in reversed(range(len(tree))):
        node = tree[number]
        depths[number] = 1 + max(depths[node[2]], depths[node[3]]) if node[0] == "ask" else 0
    return depths[0]


def led_under(tree, roof):
    """The label to which an arm with this roof is led, and the number of questions that it was asked."""
    node = tree[0]
    count = 0
    while node[0] == "ask":
        word, asked, yes, no = node
        node = tree[yes if asked in roof else no]
        count += 1
    return (node[1], count)


def led(web, tree, arm):
    """The label to which the arm is led, and the number of questions that it was asked."""
    check_kinds(web, names_in(arm))
    return led_under(tree, roof_of(roofs_of(web), arm))


def all_led(web, tree):
    """For each kind of the web what led tells."""
    roofs = roofs_of(web)
    return [led_under(tree, roofs[name]) for name in roofs]


def is_behind(number, size, thing):
    """Whether something is the number of a node, of so many, behind that of this number."""
    return is_whole(thing) and number < thing < size


def is_node(known, number, size, thing):
    """Whether something may be the node of this number in a tree of so many nodes."""
    if not isinstance(thing, tuple) or not thing:
        return False
    if thing[0] == "ask" and len(thing) == 4:
        return thing[1] in known and all([is_behind(number, size, other) for other in thing[2:]])
    return thing[0] == "tell" and len(thing) == 2 and is_figure(thing[1])


def is_tree(web, thing):
    """Whether something, whatever it is, is a tree of the web."""
    if not isinstance(thing, list) or not 1 <= len(thing) <= MOST_NODES:
        return False
    known = names_of(web)
    if not all([is_node(known, number, len(thing), node) for number, node in enumerate(thing)]):
        return False
    led_to = [other for node in thing if node[0] == "ask" for other in node[2:]]
    return sorted(led_to) == list(range(1, len(thing)))


def tells(web, labels, thing):
    """Whether something, whatever it is, is a tree that tells the labels."""
    return is_tree(web, thing) and [label for label, count in all_led(web, thing)] == labels
