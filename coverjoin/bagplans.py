"""Plans by bags: the answers of each bag, joined along a tree of bags."""

from coverjoin.answers import answers
from coverjoin.bagtrees import check_bag_tree, layout_of
from coverjoin.checks import check_query, check_store
from coverjoin.reduce import joined
from coverjoin.tables import parts_at
from coverjoin.widths import check_bag


def _cut(query, bag):
    """The query of a bag, its attributes told by their places there."""
    atoms = [tuple([bag.index(attribute) for attribute in atom if attribute in bag]) for atom in query[1]]
    return len(bag), tuple([atom for atom in atoms if len(atom) > 0])


def bag_cut(query, bag):
    check_query(query)
    check_bag(query, bag)
    return _cut(query, bag)


def bag_query(query, tree):
    check_query(query)
    check_bag_tree(query, tree)
    return query[0], tree[0]


def _bag_table(query, store, bag):
    tables = []
    for at in range(len(store)):
        atom = query[1][at]
        places = [atom.index(attribute) for attribute in atom if attribute in bag]
        if len(places) > 0:
            tables.append(tuple(sorted(set(parts_at(store[at], places)))))
    return answers(_cut(query, bag), tuple(tables))


def bag_store(query, store, tree):
    check_store(query, store)
    check_bag_tree(query, tree)
    return tuple([_bag_table(query, store, bag) for bag in tree[0]])


def by_bags(query, store, tree):
    tables = bag_store(query, store, tree)
    return joined((query[0], tree[0]), tables, layout_of(tree))[0]
