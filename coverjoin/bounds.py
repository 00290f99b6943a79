"""Least covers for all counts, and stores that come to the bound."""

from coverjoin.checks import are_from, check_query, check_store, is_from, is_pair
from coverjoin.covers import check_exponents, is_sum_weights
from coverjoin.errors import BadCounts, BadNumbers, BadPowers, BadRoot, BadWeights, TooMany
from coverjoin.exact import least_shares, product_of, root_below, sign_of
from coverjoin.shares import MOST, are_small, check_counts, check_shares, first_lack, in_least_terms, is_cover
from coverjoin.tables import sizes

# The most rows that a table gets here.
ROWS = 400


def _least(query, counts):
    check_query(query)
    check_counts(query, counts, 1)
    return least_shares(query[1], query[0], counts)


def least_cover(query, counts):
    shares, _, denominator = _least(query, counts)
    return in_least_terms(shares, denominator)


def top_powers(query, counts):
    _, measures, denominator = _least(query, counts)
    return tuple([tuple(row) for row in measures]), denominator


def _is_power_row(query, value):
    if not isinstance(value, tuple) or len(value) != len(query[1]):
        return False
    return all(is_from(item, -MOST) and item <= MOST for item in value)


def _is_power_form(query, value):
    """Whether any value is powers, fitting or not."""
    if not is_pair(value):
        return False
    rows, denominator = value
    if not isinstance(rows, tuple) or len(rows) != query[0]:
        return False
    if not all(_is_power_row(query, row) for row in rows):
        return False
    return is_from(denominator, 1) and denominator <= MOST


def _summed(rows, many):
    """The sums of rows, item by item: the exponents of the product of their measures."""
    return [sum([row[k] for row in rows]) for k in range(many)]


def are_powers(query, counts, value):
    check_query(query)
    check_counts(query, counts, 1)
    if not _is_power_form(query, value):
        return False
    rows, denominator = value
    if not all(sign_of(counts, row) >= 0 for row in rows):
        return False
    atoms = query[1]
    for k in range(len(atoms)):
        exponents = _summed([rows[attribute] for attribute in atoms[k]], len(atoms))
        exponents[k] -= denominator
        if sign_of(counts, exponents) > 0:
            return False
    return True


def is_least_cover(query, counts, cover, powers):
    if not are_powers(query, counts, powers):
        return False
    if not is_cover(query, cover) or not are_small(cover):
        return False
    sums = _summed(powers[0], len(counts))
    exponents = [sums[k] * cover[1] - cover[0][k] * powers[1] for k in range(len(counts))]
    return sign_of(counts, exponents) == 0


def beyond_store(query, shares):
    check_query(query)
    check_shares(query, shares)
    lacking = first_lack(query, shares)
    if lacking is None:
        return None
    return _full(query, [2 if attribute == lacking else 1 for attribute in range(query[0])])


def all_rows(limits):
    """The ascending list of the rows whose items are below the limits, one by one."""
    rows = [()]
    for limit in limits:
        rows = [row + (number,) for row in rows for number in range(limit)]
    return rows


def _full(query, numbers):
    limits = [[numbers[attribute] for attribute in atom] for atom in query[1]]
    for row in limits:
        if product_of(row, [1] * len(row)) > ROWS:
            raise TooMany(ROWS)
    return tuple([tuple(all_rows(row)) for row in limits])


def full_store(query, numbers):
    check_query(query)
    if not are_from(numbers, query[0], 1):
        raise BadNumbers("not a tuple with a number from 1 on for each attribute")
    return _full(query, numbers)


def check_root(root):
    if not is_from(root, 1):
        raise BadRoot("not a number from 1 on")


def few_power(root, exponent):
    """The root to the power of the exponent; TooMany if it is more than a table may have."""
    result = 1
    # The exponent may be far too great to go through, but 2 soon comes to too many.
    for _ in range(exponent if root > 1 else 0):
        result = result * root
        if result > ROWS:
            raise TooMany(ROWS)
    return result


def tight_store(query, exponents, weights, root):
    check_query(query)
    check_exponents(query, exponents)
    if not is_sum_weights(query, exponents, weights):
        raise BadWeights("not fitting weights")
    check_root(root)
    return _full(query, [few_power(root, numerator) for numerator in weights[0]])


def floor_store(query, counts, powers):
    if not are_powers(query, counts, powers):
        raise BadPowers("not fitting powers")
    return _full(query, [_floor(counts, row, powers[1]) for row in powers[0]])


def _floor(counts, row, denominator):
    """The greatest whole number that is at most the measure of the row."""
    over = product_of(counts, [max(0, item) for item in row])
    under = product_of(counts, [max(0, -item) for item in row])
    return root_below(over // under, denominator)


def filled_store(query, store, counts):
    check_store(query, store)
    check_counts(query, counts)
    having = sizes(query, store)
    if not all(having[k] <= counts[k] for k in range(len(counts))):
        raise BadCounts("a table has more rows than its count")
    if max(counts) > ROWS:
        raise TooMany(ROWS)
    lacks = [counts[k] - having[k] for k in range(len(counts))]
    free = _free_numbers(store, max(lacks))
    atoms = query[1]
    return tuple([_filled(store[k], len(atoms[k]), free[:lacks[k]]) for k in range(len(atoms))])


def _free_numbers(store, many):
    """So many of the least numbers that are nowhere in the store."""
    used = {number for table in store for row in table for number in row}
    free = []
    number = 0
    while len(free) < many:
        if number not in used:
            free.append(number)
        number += 1
    return free


def _filled(table, width, numbers):
    return tuple(sorted(list(table) + [(number,) * width for number in numbers]))
