"""Exact work with whole numbers: powers, roots, products that are nearly alike, and
the least covers of all (linear programs), without any rounding."""

from math import gcd


def power(base, exponent):
    result = 1
    for at in range(exponent.bit_length() - 1, -1, -1):
        result = result * result
        if (exponent >> at) & 1 == 1:
            result = result * base
    return result


def root_below(number, degree):
    """The greatest whole number whose power of this degree is at most number."""
    if degree == 1 or number < 2:
        return number
    bits = number.bit_length() // degree
    if bits < 16:
        return _searched_root(number, degree, bits)
    # The upper half of the root's bits is soon found, and makes a guess from which
    # Newton's steps go down fast; they never go below the root.
    half = bits // 2
    guess = (root_below(number >> (half * degree), degree) + 1) << half
    while True:
        better = ((degree - 1) * guess + number // power(guess, degree - 1)) // degree
        if better >= guess:
            return guess
        guess = better


def _searched_root(number, degree, bits):
    low, high = 0, 1 << (bits + 1)
    while high - low > 1:
        middle = (low + high) // 2
        if power(middle, degree) <= number:
            low = middle
        else:
            high = middle
    return low


def product_of(bases, exponents):
    """The product of the bases, each to the power of its exponent, 0 or more."""
    result = 1
    for k in range(len(bases)):
        result = result * power(bases[k], exponents[k])
    return result


def sign_of(bases, exponents):
    """-1, 0 or 1 if the product of the bases, whole numbers from 1 on, each to the power
    of its exponent, of either sign, is less than, equal to, more than 1."""
    powers = _coprime_powers(bases, exponents)
    over = [(base, exponent) for base, exponent in powers if exponent > 0]
    under = [(base, -exponent) for base, exponent in powers if exponent < 0]
    if len(under) == 0:
        return 1 if len(over) > 0 else 0
    if len(over) == 0:
        return -1
    # The two products have no divisor in common, so they are unlike, and some number
    # of bits tells them apart.
    bits = 64
    while True:
        one = _bounded_product(over, bits)
        other = _bounded_product(under, bits)
        if _is_above(one, other):
            return 1
        if _is_above(other, one):
            return -1
        bits = bits * 2


def _coprime_powers(bases, exponents):
    """Pairs (base, exponent) with the same product, the bases without common divisors."""
    used = [k for k in range(len(bases)) if bases[k] > 1 and exponents[k] != 0]
    powers = []
    for base in _coprime_parts([bases[k] for k in used]):
        exponent = sum([exponents[k] * _times(base, bases[k]) for k in used])
        if exponent != 0:
            powers.append((base, exponent))
    return powers


def _coprime_parts(numbers):
    """Numbers above 1, no two with a common divisor, of whose powers all numbers are products."""
    parts = []
    waiting = list(numbers)
    while len(waiting) > 0:
        number = waiting.pop()
        at = 0
        while at < len(parts) and gcd(parts[at], number) == 1:
            at += 1
        if at < len(parts):
            other = parts.pop(at)
            common = gcd(other, number)
            waiting.extend([part for part in (other // common, number // common, common) if part > 1])
        else:
            parts.append(number)
    return parts


def _times(base, number):
    """How many times base divides number."""
    times = 0
    while number % base == 0:
        number = number // base
        times += 1
    return times


# Below, a range is a triple (low, high, shift), which stands for all numbers from
# low << shift to high << shift.


def _bounded_product(powers, bits):
    """A range of about so many bits that has the product of the powers."""
    result = (1, 1, 0)
    for base, exponent in powers:
        result = _bounded_times(result, _bounded_power(base, exponent, bits), bits)
    return result


def _bounded_power(base, exponent, bits):
    result = (1, 1, 0)
    for at in range(exponent.bit_length() - 1, -1, -1):
        result = _bounded_times(result, result, bits)
        if (exponent >> at) & 1 == 1:
            result = _bounded_times(result, (base, base, 0), bits)
    return result


def _bounded_times(one, other, bits):
    low, high, shift = one[0] * other[0], one[1] * other[1], one[2] + other[2]
    more = high.bit_length() - bits
    if more <= 0:
        return low, high, shift
    return low >> more, (high >> more) + 1, shift + more


def _is_above(one, other):
    """Whether all numbers of the one range are above all of the other."""
    low, high = one[0], other[1]
    if low == 0:
        return False
    # The shifts may be far too great to be done: the lengths tell most.
    length, against = low.bit_length() + one[2], high.bit_length() + other[2]
    if length != against:
        return length > against
    least = min(one[2], other[2])
    return low << (one[2] - least) > high << (other[2] - least)


def pivoted(table, at, column, denominator):
    """The table, whose numbers stand over the denominator, with the column cleared but for
    the row at this place, over the row's number in the column. All divisions come out even."""
    pivot = table[at][column]
    cleared = []
    for k in range(len(table)):
        if k == at:
            cleared.append(list(table[k]))
        else:
            factor = table[k][column]
            cleared.append([(pivot * x - factor * y) // denominator for x, y in zip(table[k], table[at])])
    return cleared


def least_shares(holders, width, counts):
    """The least cover of so many columns: each column in holders, a list with the columns
    of each atom, gets shares of atoms that sum up to 1, the counts come to the least.

    The triple (shares, measures, denominator): the numerators of the shares, and for each
    column a list with an exponent's numerator for each atom. The measures are the papers
    that nothing is less. The shares are a corner, and all are parts of determinants of
    0 and 1 of at most 8 rows: at most 56.

    It is the simplex method from the side of the measures, whose bounds are the logarithms
    of the counts; as these are only compared, all is whole. Of several columns or rows
    the first one is taken (Bland's rule), so it never goes round.
    """
    many = len(holders)
    table = [_first_row(holders[k], width, k, many) for k in range(many)]
    table.append([-1] * width + [0] * many)
    held = [width + k for k in range(many)]
    denominator = 1
    column = _entering(table[many])
    while column is not None:
        at = _leaving(table, column, held, counts)
        pivot = table[at][column]
        table = pivoted(table, at, column, denominator)
        denominator = pivot
        held[at] = column
        column = _entering(table[many])
    measures = [_measure(table, held, k, width) for k in range(width)]
    return table[many][width:], measures, denominator


def _first_row(columns, width, at, many):
    row = [0] * (width + many)
    for column in columns:
        row[column] = 1
    row[width + at] = 1
    return row


def _entering(row):
    for column in range(len(row)):
        if row[column] < 0:
            return column
    return None


def _leaving(table, column, held, counts):
    """The row that bounds the column most, of several the one that holds the first column."""
    best = None
    for k in range(len(held)):
        if table[k][column] > 0:
            sign = -1 if best is None else _compared_bounds(table, column, k, best, counts)
            if sign < 0 or (sign == 0 and held[k] < held[best]):
                best = k
    return best


def _compared_bounds(table, column, one, other, counts):
    width = len(table[one]) - len(counts)
    exponents = []
    for k in range(width, len(table[one])):
        exponents.append(table[one][k] * table[other][column] - table[other][k] * table[one][column])
    return sign_of(counts, exponents)


def _measure(table, held, column, width):
    if column not in held:
        return [0] * (len(table[0]) - width)
    return table[held.index(column)][width:]
