"""Least sums of covers, the weights that show them least, and corners."""

from math import gcd

from coverjoin.checks import check_query, is_below
from coverjoin.errors import BadCorner, BadExponents
from coverjoin.exact import least_shares, pivoted
from coverjoin.shares import check_cover, check_small, check_wanted, in_least_terms, is_cover
from coverjoin.shares import is_fraction, sum_at, wanted_of

# The exponents are below this.
EXPONENTS = 100


def check_exponents(query, exponents):
    if not isinstance(exponents, tuple) or len(exponents) != len(query[1]):
        raise BadExponents("not a tuple with an exponent for each atom")
    if not all(is_below(exponent, EXPONENTS) for exponent in exponents):
        raise BadExponents("not a number from 0 to 99")


def sum_of(shares, exponents):
    """The pair (numerator, denominator) of the total, not always in least terms."""
    return sum([shares[0][k] * exponents[k] for k in range(len(exponents))]), shares[1]


def are_equal(one, other):
    """Whether two pairs (numerator, denominator) are the same number."""
    return one[0] * other[1] == other[0] * one[1]


def least_by_exponents(holders, width, exponents):
    """The triple (total, shares, weights) of the least cover of so many columns, holders
    being a list with the columns of each atom: all pairs in least terms."""
    # With powers of two as counts the logarithms are just the exponents.
    counts = [1 << exponent for exponent in exponents]
    found, measures, denominator = least_shares(holders, width, counts)
    shares = in_least_terms(found, denominator)
    weights = [sum([row[k] * exponents[k] for k in range(len(exponents))]) for row in measures]
    numerator, under = sum_of(shares, exponents)
    common = gcd(numerator, under)
    return (numerator // common, under // common), shares, in_least_terms(weights, denominator)


def _least(query, exponents, wanted):
    check_query(query)
    check_exponents(query, exponents)
    check_wanted(query, wanted)
    attributes = wanted_of(query, wanted)
    holders = []
    for atom in query[1]:
        holders.append([k for k in range(len(attributes)) if attributes[k] in atom])
    return least_by_exponents(holders, len(attributes), exponents)


def least_sum(query, exponents, wanted=None):
    return _least(query, exponents, wanted)[0]


def sum_cover(query, exponents, wanted=None):
    return _least(query, exponents, wanted)[1]


def sum_weights(query, exponents, wanted=None):
    numerators, denominator = _least(query, exponents, wanted)[2]
    attributes = wanted_of(query, wanted)
    told = [0] * query[0]
    for k in range(len(attributes)):
        told[attributes[k]] = numerators[k]
    return tuple(told), denominator


def do_fit(holders, exponents, weights):
    """Whether, for each atom, the weights of its columns are at most its exponent."""
    for k in range(len(holders)):
        if sum([weights[0][column] for column in holders[k]]) > weights[1] * exponents[k]:
            return False
    return True


def is_sum_weights(query, exponents, value, wanted=None):
    check_query(query)
    check_exponents(query, exponents)
    check_wanted(query, wanted)
    if not is_fraction(value, query[0]):
        return False
    attributes = wanted_of(query, wanted)
    others = [attribute for attribute in range(query[0]) if attribute not in attributes]
    if not all(value[0][attribute] == 0 for attribute in others):
        return False
    return do_fit(query[1], exponents, value)


def is_least_sum(query, exponents, cover, weights, wanted=None):
    if not is_sum_weights(query, exponents, weights, wanted):
        return False
    if not is_cover(query, cover, wanted):
        return False
    return are_equal(sum_of(cover, exponents), (sum(weights[0]), weights[1]))


def is_corner(query, value):
    if not is_cover(query, value):
        return False
    return in_least_terms(value[0], value[1]) == value and _way_out(query, value) is None


def _tight(query, cover):
    """The attributes that the cover just covers."""
    return [attribute for attribute in range(query[0]) if sum_at(query, cover, attribute) == cover[1]]


def _way_out(query, cover):
    """For each atom a number, not all 0, that its share may grow by and shrink by, if all do
    so a little, and what is left is a cover; None if there is no such way."""
    atoms = query[1]
    used = [k for k in range(len(atoms)) if cover[0][k] > 0]
    rows = []
    for attribute in _tight(query, cover):
        rows.append([1 if attribute in atoms[k] else 0 for k in used])
    found = _balance(rows, len(used))
    if found is None:
        return None
    way = [0] * len(atoms)
    for k in range(len(used)):
        way[used[k]] = found[k]
    return way


def _balance(rows, width):
    """Whole numbers for the columns, not all 0, that come to 0 in each row; None if there are none."""
    table = rows
    denominator = 1
    # The rows that pivots stand in, by their columns.
    held = {}
    for column in range(width):
        free = [k for k in range(len(table)) if table[k][column] != 0 and k not in list(held.values())]
        if len(free) == 0:
            return _balanced(table, held, column, denominator, width)
        held[column] = free[0]
        pivot = table[free[0]][column]
        table = pivoted(table, free[0], column, denominator)
        denominator = pivot
    return None


def _balanced(table, held, column, denominator, width):
    numbers = [0] * width
    numbers[column] = denominator
    for other in held:
        numbers[other] = -table[held[other]][column]
    divisor = 0
    for number in numbers:
        divisor = gcd(divisor, number)
    return [number // divisor for number in numbers]


def _shares_equal(one, other):
    return all(are_equal((one[0][k], one[1]), (other[0][k], other[1])) for k in range(len(one[0])))


def is_middle(query, cover, one, other):
    check_cover(query, cover)
    if not is_cover(query, one) or not is_cover(query, other):
        return False
    if _shares_equal(cover, one):
        return False
    sums = [one[0][k] * other[1] + other[0][k] * one[1] for k in range(len(one[0]))]
    return _shares_equal((sums, 2 * one[1] * other[1]), cover)


def two_ways(query, cover):
    check_cover(query, cover)
    check_small(cover)
    way = _way_out(query, cover)
    if way is None:
        return None
    # So much finer, no share falls below 0 and no attribute behind what it lacks.
    finer = max([abs(step) for step in way] + [abs(sum_at(query, (way, 1), a)) for a in range(query[0])])
    more = [cover[0][k] * finer + way[k] for k in range(len(way))]
    less = [cover[0][k] * finer - way[k] for k in range(len(way))]
    return in_least_terms(more, cover[1] * finer), in_least_terms(less, cover[1] * finer)


def exponents_for(query, corner):
    if not is_corner(query, corner):
        raise BadCorner("not a corner")
    tight = _tight(query, corner)
    atoms = query[1]
    exponents = []
    for k in range(len(atoms)):
        just = [attribute for attribute in atoms[k] if attribute in tight]
        exponents.append(len(just) + 1 if corner[0][k] == 0 else len(just))
    return tuple(exponents)
