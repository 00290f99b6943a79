"""Hierarchical queries: their forests, and the pairs of attributes that the others have."""

from coverjoin.checks import check_attribute, check_query, is_below
from coverjoin.errors import BadForest, NotHierarchical


def _having(query, attribute):
    atoms = query[1]
    return tuple([at for at in range(len(atoms)) if attribute in atoms[at]])


def atoms_of(query, attribute):
    check_query(query)
    check_attribute(query, attribute)
    return _having(query, attribute)


def way_down(forest, attribute):
    """The attributes from a root to this one, parent by parent."""
    way = (attribute,)
    while forest[way[0]] is not None:
        way = (forest[way[0]],) + way
    return way


def has_parents(many, value):
    """Whether any value tells another attribute or None for each one, and none goes round."""
    if not isinstance(value, tuple) or len(value) != many:
        return False
    if not all(parent is None or is_below(parent, many) for parent in value):
        return False
    for attribute in range(many):
        above = attribute
        for _ in range(many):
            above = None if above is None else value[above]
        if above is not None:
            return False
    return True


def end_of(forest, atom):
    """The attribute of the atom whose way has just the atom's attributes, None if there is none."""
    for attribute in atom:
        if tuple(sorted(way_down(forest, attribute))) == atom:
            return attribute
    return None


def is_forest(query, value):
    check_query(query)
    if not has_parents(query[0], value):
        return False
    return all(end_of(value, atom) is not None for atom in query[1])


def way_to(query, forest, attribute):
    if not is_forest(query, forest):
        raise BadForest("not a forest of the query")
    check_attribute(query, attribute)
    return way_down(forest, attribute)


def _told_parent(lots, attribute):
    """The parent of an attribute in the told forest, lots being the atoms of each attribute."""
    own = lots[attribute]
    best = None
    for other in range(len(lots)):
        ahead = len(lots[other]) > len(own) or (len(lots[other]) == len(own) and other < attribute)
        if ahead and all(at in lots[other] for at in own):
            if best is None or len(lots[other]) <= len(lots[best]):
                best = other
    return best


def _tells(query, told):
    """Whether these are two attributes, the lesser one first, and an atom that has the first alone of
    them, one that has both, and one that has the second alone."""
    one, other, first, both, second = told
    having = [(one in query[1][at], other in query[1][at]) for at in (first, both, second)]
    return one < other and having == [(True, False), (True, True), (False, True)]


def least_pair(query):
    """The least such tuple, None if there is none."""
    many = len(query[1])
    for one in range(query[0]):
        for other in range(one + 1, query[0]):
            for first in range(many):
                for both in range(many):
                    for second in range(many):
                        told = (one, other, first, both, second)
                        if _tells(query, told):
                            return told
    return None


def hierarchy(query):
    check_query(query)
    pair = least_pair(query)
    if pair is not None:
        return ("pair",) + pair
    lots = [_having(query, attribute) for attribute in range(query[0])]
    return "forest", tuple([_told_parent(lots, attribute) for attribute in range(query[0])])


def is_pair_of(query, value):
    """Whether any value is a pair that shows that the query is not hierarchical, the least or not."""
    if not isinstance(value, tuple) or len(value) != 6:
        return False
    if not isinstance(value[0], str) or value[0] != "pair":
        return False
    if not all(is_below(attribute, query[0]) for attribute in value[1:3]):
        return False
    return all(is_below(at, len(query[1])) for at in value[3:]) and _tells(query, value[1:])


def is_hierarchy(query, value):
    check_query(query)
    if is_pair_of(query, value):
        return True
    if not isinstance(value, tuple) or len(value) != 2:
        return False
    return isinstance(value[0], str) and value[0] == "forest" and is_forest(query, value[1])


def told_forest(query):
    """The told forest of a query; NotHierarchical if it has none."""
    told = hierarchy(query)
    if told[0] == "pair":
        raise NotHierarchical(told[1:])
    return told[1]


def sequence(query):
    forest = told_forest(query)
    waiting = [None]
    told = []
    while len(waiting) > 0:
        attribute = waiting.pop()
        if attribute is not None:
            told.append(attribute)
        # The least one is taken next, and all below it ahead of its sisters.
        waiting.extend([other for other in range(query[0]) if forest[other] == attribute][::-1])
    return tuple(told)
