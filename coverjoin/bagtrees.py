"""Trees of bags, and the orders of taking attributes out that are as good as they are."""

from coverjoin.acyclic import is_tree_of
from coverjoin.checks import are_below, check_attribute, check_query, is_pair
from coverjoin.errors import BadGone, BadTree
from coverjoin.hierarchical import has_parents, way_down
from coverjoin.tables import check_order

# The most bags of a tree.
BAGS = 8


def is_bag(query, value):
    """Whether any value is an ascending tuple of one or more attributes."""
    return are_below(value, query[0]) and len(value) > 0


def lies_within(one, other):
    """Whether all attributes of the one tuple are in the other."""
    return all(attribute in other for attribute in one)


def layout_of(tree):
    """The layout with the parents of a tree of bags: its root is its own parent."""
    parents = tree[1]
    return tuple([at if parents[at] is None else parents[at] for at in range(len(parents))])


def is_bag_tree(query, value):
    check_query(query)
    if not is_pair(value):
        return False
    bags, parents = value
    if not isinstance(bags, tuple) or not 1 <= len(bags) <= BAGS or not all(is_bag(query, bag) for bag in bags):
        return False
    if not has_parents(len(bags), parents):
        return False
    if not all(any(lies_within(atom, bag) for bag in bags) for atom in query[1]):
        return False
    return is_tree_of(bags, layout_of(value))


def check_bag_tree(query, tree):
    if not is_bag_tree(query, tree):
        raise BadTree("not a tree of bags")


def bag_behind(query, gone, attribute):
    """The bag of an attribute that is taken out behind those that are gone."""
    bag = {attribute: True}
    passed = {}
    waiting = [attribute]
    while len(waiting) > 0:
        here = waiting.pop()
        for other in [beside for atom in query[1] if here in atom for beside in atom]:
            if other not in gone:
                bag[other] = True
            elif other not in passed:
                passed[other] = True
                waiting.append(other)
    return tuple(sorted(bag))


def bag_at(query, gone, attribute):
    check_query(query)
    if not are_below(gone, query[0]):
        raise BadGone("not an ascending tuple of attributes")
    check_attribute(query, attribute)
    if attribute in gone:
        raise BadGone("the attribute is gone")
    return bag_behind(query, gone, attribute)


def bags_of(query, order):
    check_query(query)
    check_order(query, order)
    return tuple([bag_behind(query, order[:k], order[k]) for k in range(len(order))])


def bag_tree_of(query, order):
    bags = bags_of(query, order)
    last = len(bags) - 1
    parents = []
    for k in range(last):
        others = [order.index(attribute) for attribute in bags[k] if attribute != order[k]]
        parents.append(min(others + [last]))
    return bags, tuple(parents + [None])


def order_from(query, tree):
    check_query(query)
    check_bag_tree(query, tree)
    bags, parents = tree
    ranked = []
    for attribute in range(query[0]):
        # An attribute is taken out where no bag further up has it: by then all that is further down, and
        # nowhere else, is gone, so what is left beside it is in this bag.
        top = min([len(way_down(parents, at)) for at in range(len(bags)) if attribute in bags[at]])
        ranked.append((-top, attribute))
    return tuple([attribute for _, attribute in sorted(ranked)])
