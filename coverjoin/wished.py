"""The parts of answers at wished attributes, and the trees or paths that tell how hard they are."""

from coverjoin.acyclic import check_acyclic, is_tree_of, tree_of
from coverjoin.checks import check_query, check_store, is_below
from coverjoin.cores import grown, shared_by
from coverjoin.counts import are_neighbours, check_wished
from coverjoin.engine import Lists
from coverjoin.errors import NoPath
from coverjoin.pairs import Rows
from coverjoin.reduce import live_along
from coverjoin.tables import parts_at


def wished_answers(query, store, wished):
    check_store(query, store)
    check_wished(query, wished)
    return tuple(Rows(query, Lists(query, store), list(range(len(store))), wished, None).rows())


def is_path(query, wished, value):
    check_query(query)
    check_wished(query, wished)
    if not isinstance(value, tuple) or len(value) < 3:
        return False
    if not all(is_below(item, query[0]) for item in value) or len(set(value)) < len(value):
        return False
    if value[0] not in wished or value[-1] not in wished or value[0] > value[-1]:
        return False
    if any(attribute in wished for attribute in value[1:-1]):
        return False
    return all(_goes_on(query, value[:k], value[k]) for k in range(1, len(value)))


def _goes_on(query, way, attribute):
    """Whether the attribute is a neighbour of the last one of the way, and of no other."""
    if not are_neighbours(query[1], way[-1], attribute):
        return False
    return not any(are_neighbours(query[1], other, attribute) for other in way[:-1])


def _first_path(query, wished):
    # The ways stand in ascending sequence, so the first of the shortest paths is met first.
    ways = [(attribute,) for attribute in wished]
    while len(ways) > 0:
        further = []
        for way in ways:
            for attribute in range(query[0]):
                if attribute not in way and _goes_on(query, way, attribute):
                    if attribute not in wished:
                        further.append(way + (attribute,))
                    elif len(way) > 1 and way[0] < attribute:
                        return way + (attribute,)
        ways = further
    return None


def path_of(query, wished):
    check_query(query)
    check_wished(query, wished)
    check_acyclic(query)
    return _first_path(query, wished)


def is_wished_tree(query, wished, value):
    check_query(query)
    check_wished(query, wished)
    many = len(query[1])
    return is_tree_of(query[1] + (wished,), value) and value[many] == many


def wished_tree(query, wished):
    check_query(query)
    check_wished(query, wished)
    check_acyclic(query)
    tree = grown(query[1] + (wished,), len(query[1]))[1]
    return tree if is_wished_tree(query, wished, tree) else None


def _at_wished(atom, wished):
    return tuple([attribute for attribute in atom if attribute in wished])


def traces(query, wished):
    check_query(query)
    check_wished(query, wished)
    unlike = sorted({_at_wished(atom, wished) for atom in query[1]})
    return tuple([one for one in unlike if not _is_within_another(one, unlike)])


def _is_within_another(one, tuples):
    return any(other != one and shared_by(one, other) == len(one) for other in tuples)


def parts(query, store, wished):
    check_store(query, store)
    check_wished(query, wished)
    check_acyclic(query)
    tables = live_along(query, store, tree_of(query))
    told = {}
    # All rows are parts of answers now, so theirs are parts of wished answers.
    for at in range(len(tables)):
        atom = query[1][at]
        trace = _at_wished(atom, wished)
        if trace not in told:
            places = [atom.index(attribute) for attribute in trace]
            told[trace] = tuple(sorted(set(parts_at(tables[at], places))))
    return tuple([told[trace] for trace in traces(query, wished)])


def path_store(query, wished):
    path = path_of(query, wished)
    if path is None:
        raise NoPath("the wished attributes are connected")
    # Two answers, 0 and 1 all along the path: its ends are in no trace together, so nothing
    # tells at the traces that they are always alike.
    ones = tuple([1 if attribute in path else 0 for attribute in range(query[0])])
    rows = [(0,) * query[0], ones]
    return tuple([tuple(sorted(set(parts_at(rows, atom)))) for atom in query[1]])
