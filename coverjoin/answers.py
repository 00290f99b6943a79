"""The answers of a store: the tuples whose parts are rows of all tables."""

from coverjoin.checks import are_from, check_store


def answers(query, store):
    check_store(query, store)
    parts = [(query[1][k], store[k]) for k in range(len(store))]
    found = [tuple([number for _, number in sorted(way)]) for way in _ways(parts)]
    return tuple(sorted(found))


def is_answer(query, store, value):
    check_store(query, store)
    many, atoms = query
    if not are_from(value, many, 0):
        return False
    return all(_part(value, atoms[k]) in store[k] for k in range(len(atoms)))


def _part(answer, atom):
    return tuple([answer[attribute] for attribute in atom])


# Below, a part is a pair of attributes and rows for them; a way is a tuple of
# pairs (attribute, number), one for each attribute of some parts.


def _ways(parts):
    """The ways to give all attributes of the parts numbers that are rows of each part."""
    lots = _lots(parts)
    # One lot without any way spares going through the ways of all others.
    if len(lots) > 1 and not all(_has_way(lot) for lot in lots):
        return []
    ways = [()]
    for lot in lots:
        further = _ways_of_lot(lot)
        ways = [way + more for way in ways for more in further]
    return ways


def _ways_of_lot(lot):
    attribute, choices = _thinnest(lot)
    found = []
    for number, rest in choices:
        found.extend([((attribute, number),) + way for way in _ways(rest)])
    return found


def _has_way(lot):
    choices = _thinnest(lot)[1]
    for _, rest in choices:
        if all(_has_way(part) for part in _lots(rest)):
            return True
    return False


def _lots(parts):
    """The parts in lots, two parts with an attribute in common being in the same lot."""
    lots = []
    for part in parts:
        linked = [lot for lot in lots if _meets(lot, part[0])]
        lots = [lot for lot in lots if not _meets(lot, part[0])]
        lots.append([other for lot in linked for other in lot] + [part])
    return lots


def _meets(lot, attributes):
    return any(attribute in attributes for part in lot for attribute in part[0])


def _thinnest(lot):
    """The attribute with the fewest numbers in all its parts, and the pairs of such a
    number and the parts that are left when the attribute has it."""
    best = None
    for attribute in sorted({a for part in lot for a in part[0]}):
        groups = [_grouped(part, attribute) for part in lot if attribute in part[0]]
        shared = _shared(groups)
        if best is None or len(shared) < len(best[1]):
            best = (attribute, shared, groups)
    attribute, shared, groups = best
    others = [part for part in lot if attribute not in part[0]]
    held = [_without(part[0], attribute) for part in lot if attribute in part[0]]
    choices = []
    for number in shared:
        rest = [(held[k], groups[k][number]) for k in range(len(held)) if len(held[k]) > 0]
        choices.append((number, rest + others))
    return attribute, choices


def _shared(groups):
    """The keys that all groups have."""
    shared = list(groups[0])
    for group in groups[1:]:
        shared = [number for number in shared if number in group]
    return shared


def _grouped(part, attribute):
    """The dict from the numbers that a part has at the attribute to what is left of the rows there."""
    attributes, rows = part
    place = attributes.index(attribute)
    groups = {}
    for row in rows:
        groups.setdefault(row[place], []).append(row[:place] + row[place + 1:])
    return groups


def _without(attributes, attribute):
    return tuple([other for other in attributes if other != attribute])
