"""The orders in which the engine makes the fewest steps."""

from coverjoin.checks import are_below, check_store, is_below
from coverjoin.engine import Lists, steps_behind
from coverjoin.errors import BadAttribute, BadKnown


def steps_at(query, store, known, attribute):
    check_store(query, store)
    if not are_below(known, query[0]):
        raise BadKnown("not an ascending tuple of attributes")
    if not is_below(attribute, query[0]) or attribute in known:
        raise BadAttribute("not an attribute that is not known")
    return steps_behind(Lists(query, store), known, attribute)


def parts_of(items):
    """All parts of the items, in their sequence, those with the fewest first."""
    found = [()]
    for item in items:
        found = found + [part + (item,) for part in found]
    return [part for _, part in sorted([(len(part), part) for part in found])]


def _with(known, attribute):
    return tuple(sorted(known + (attribute,)))


def _further(many, known):
    return [attribute for attribute in range(many) if attribute not in known]


def _steps_left(query, store):
    """The pair of the dict of the least steps behind known attributes, and the dict of the steps at
    each pair of known attributes and a further one."""
    lists = Lists(query, store)
    left = {}
    steps = {}
    # Those with more attributes come first, as the others are summed up from them.
    for known in parts_of(list(range(query[0])))[::-1]:
        sums = []
        for attribute in _further(query[0], known):
            steps[(known, attribute)] = steps_behind(lists, known, attribute)
            sums.append(steps[(known, attribute)] + left[_with(known, attribute)])
        left[known] = min(sums) if len(sums) > 0 else 0
    return left, steps


def least_left(query, store):
    check_store(query, store)
    return _steps_left(query, store)[0]


def least_order(query, store):
    check_store(query, store)
    left, steps = _steps_left(query, store)
    order = ()
    while len(order) < query[0]:
        known = tuple(sorted(order))
        # Taken one by one, the first of those behind which there are fewest makes the least order.
        fitting = [attribute for attribute in _further(query[0], known)
                   if steps[(known, attribute)] + left[_with(known, attribute)] == left[known]]
        order = order + (fitting[0],)
    return order, left[()]
