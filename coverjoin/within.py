"""Plans within a number of rows, and lots of atoms that show that there is none."""

from coverjoin.checks import are_below, check_store, is_from
from coverjoin.engine import Lists
from coverjoin.errors import BadMost
from coverjoin.pairs import check_thrifty, table_size

# The greatest number of rows that is asked for.
ROWS = 20000


def _check(query, store, most, thrifty):
    check_store(query, store)
    if not is_from(most, 0) or most > ROWS:
        raise BadMost("not a number from 0 to 20,000")
    check_thrifty(thrifty)


def _has_more(query, lists, among, thrifty, most):
    size = table_size(query, lists, among, thrifty, most)
    return size is None or size > most


def _numbers(bits):
    """The ascending tuple of the numbers whose bits are there."""
    return tuple([at for at in range(bits.bit_length()) if (bits >> at) & 1 == 1])


def _plans(query, store, most, thrifty):
    """The dict from lots of atoms, as bits, to plans for them whose middle nodes, themselves among
    them if they have not all atoms, are within most."""
    lists = Lists(query, store)
    many = len(query[1])
    whole = (1 << many) - 1
    plans = {}
    for bits in range(1, whole + 1):
        # All parts of a lot are lesser numbers, so their plans are there already.
        plan = _plan_of(bits, plans)
        if plan is not None and bits != whole and len(_numbers(bits)) > 1:
            plan = None if _has_more(query, lists, _numbers(bits), thrifty, most) else plan
        if plan is not None:
            plans[bits] = plan
    return plans


def _plan_of(bits, plans):
    """A plan for the lot of two that are there, or a leaf; None if there is none."""
    if len(_numbers(bits)) == 1:
        return bits.bit_length() - 1
    one = (bits - 1) & bits
    while one > 0:
        if one in plans and bits - one in plans:
            return plans[one], plans[bits - one]
        one = (one - 1) & bits
    return None


def plan_within(query, store, most, thrifty=False):
    _check(query, store, most, thrifty)
    return _plans(query, store, most, thrifty).get((1 << len(query[1])) - 1)


def lots_against(query, store, most, thrifty=False):
    _check(query, store, most, thrifty)
    plans = _plans(query, store, most, thrifty)
    if (1 << len(query[1])) - 1 in plans:
        return None
    lots = [_numbers(bits) for bits in plans]
    return [lot for _, lot in sorted([(len(lot), lot) for lot in lots])]


def is_against(query, store, most, value, thrifty=False):
    _check(query, store, most, thrifty)
    many = len(query[1])
    if not isinstance(value, (list, tuple)):
        return False
    if not all(are_below(lot, many) and 0 < len(lot) < many for lot in value):
        return False
    lots = sorted(set(value))
    if not all((at,) in lots for at in range(many)):
        return False
    lists = Lists(query, store)
    for together in _unions(lots):
        if len(together) == many:
            return False
        if together not in lots and not _has_more(query, lists, together, thrifty, most):
            return False
    return True


def _unions(lots):
    """The unlike tuples that come of two lots without an atom in common."""
    found = {}
    for one in lots:
        for other in lots:
            if not any(at in one for at in other):
                found[tuple(sorted(one + other))] = True
    return sorted(found)
