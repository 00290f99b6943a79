"""Cores, for which every plan two by two is dear on some stores, and the plans that are steady without one."""

from coverjoin.checks import are_below, check_query, is_ascending, is_below, is_from, is_pair
from coverjoin.errors import BadCore, BadSize
from coverjoin.orders import parts_of
from coverjoin.tables import parts_at

# The greatest size of a dear store.
SIZE = 50


def are_together(query, attributes):
    """Whether some atom has all the attributes."""
    return any(all(attribute in atom for attribute in attributes) for atom in query[1])


def _pairs(items):
    return [(items[j], items[k]) for k in range(len(items)) for j in range(k)]


def _is_lot(query, value):
    if not are_below(value, query[0]) or len(value) < 3:
        return False
    return all(are_together(query, pair) for pair in _pairs(value)) and not are_together(query, value)


def is_ring(query, value):
    """Whether any value is four or more unlike attributes, just those of which are in an atom
    together that stand side by side, or are the first and the last one."""
    if not isinstance(value, tuple) or len(value) < 4:
        return False
    if not all(is_below(item, query[0]) for item in value) or not is_ascending(sorted(value)):
        return False
    for one, other in _pairs(list(range(len(value)))):
        beside = other - one in (1, len(value) - 1)
        if are_together(query, (value[one], value[other])) != beside:
            return False
    return True


def is_core(query, value):
    check_query(query)
    if not is_pair(value) or not isinstance(value[0], str):
        return False
    if value[0] == "lot":
        return _is_lot(query, value[1])
    return value[0] == "ring" and is_ring(query, value[1])


def ring_of(query, attributes):
    """The ring of just these attributes, ascending ones, that begins with the least of them and the
    lesser one of its two neighbours; None if there is none."""
    if len(attributes) < 4:
        return None
    ring = attributes[:1]
    while len(ring) < len(attributes):
        further = [other for other in attributes if other not in ring and are_together(query, (ring[-1], other))]
        if len(further) == 0:
            return None
        ring = ring + (further[0],)
    return ring if is_ring(query, ring) else None


def core(query):
    check_query(query)
    # Those with the fewest attributes come first, of these the least ones; none are both kinds.
    for attributes in parts_of(list(range(query[0]))):
        if _is_lot(query, attributes):
            return "lot", attributes
        ring = ring_of(query, attributes)
        if ring is not None:
            return "ring", ring
    return None


def grown(atoms, start):
    """The atoms in a sequence, from the one at start on, and for each atom one ahead of it there, its
    parent, itself for the first one; each time the atom is taken that shares the most attributes with
    one that is taken. If there is a join tree, this is one, as no tree of the atoms shares more."""
    sequence = [start]
    parents = [start] * len(atoms)
    while len(sequence) < len(atoms):
        left = [at for at in range(len(atoms)) if at not in sequence]
        _, other, one = max([(shared_by(atoms[at], atoms[up]), -at, -up) for at in left for up in sequence])
        parents[-other] = -one
        sequence.append(-other)
    return sequence, tuple(parents)


def shared_by(one, other):
    """How many attributes both atoms have."""
    return len([attribute for attribute in one if attribute in other])


def steady_plan(query):
    if core(query) is not None:
        return None
    sequence = grown(query[1], 0)[0]
    plan = sequence[0]
    for at in sequence[1:]:
        plan = (plan, at)
    return plan


def _check_core(query, told):
    if not is_core(query, told):
        raise BadCore("not a core of the query")


def dear_store(query, core, size):
    check_query(query)
    _check_core(query, core)
    if not is_from(size, 1) or size > SIZE:
        raise BadSize("not a number from 1 to 50")
    word, attributes = core
    groups = [(attribute,) for attribute in attributes]
    if word == "ring":
        groups = [attributes[:-2], attributes[-2:-1], attributes[-1:]]
    rows = [(0,) * query[0]]
    for group in groups:
        for number in range(1, size + 1):
            rows.append(tuple([number if attribute in group else 0 for attribute in range(query[0])]))
    return tuple([tuple(sorted(set(parts_at(rows, atom)))) for atom in query[1]])


def engine_order(query, core):
    check_query(query)
    _check_core(query, core)
    word, attributes = core
    if word == "lot":
        return tuple(range(query[0]))
    return attributes + tuple([attribute for attribute in range(query[0]) if attribute not in attributes])
