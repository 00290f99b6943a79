"""Shares of atoms, covers, and what counts come to by them, all in whole numbers."""

from math import gcd

from coverjoin.checks import are_below, are_from, check_number, check_query, is_from, is_pair
from coverjoin.errors import BadCounts, BadCover, BadShares, BadWanted, TooMany
from coverjoin.exact import product_of, root_below, sign_of

# The greatest numerator and denominator of shares that powers are made of.
MOST = 999


def check_counts(query, counts, low=0):
    if not are_from(counts, len(query[1]), low):
        raise BadCounts("not a tuple of counts")


def check_shares(query, shares):
    if not is_shares(query, shares):
        raise BadShares("not shares for the query")


def check_wanted(query, wanted):
    if wanted is not None and not are_below(wanted, query[0]):
        raise BadWanted("neither None nor an ascending tuple of attributes")


def check_cover(query, cover):
    if not is_cover(query, cover):
        raise BadCover("not a cover")


def is_fraction(value, many, low=0):
    """Whether any value is a pair of so many numerators, numbers from low on, and a denominator."""
    return is_pair(value) and are_from(value[0], many, low) and is_from(value[1], 1)


def is_shares(query, value):
    check_query(query)
    return is_fraction(value, len(query[1]))


def is_cover(query, value, wanted=None):
    check_query(query)
    check_wanted(query, wanted)
    if not is_shares(query, value):
        return False
    return first_lack(query, value, wanted) is None


def wanted_of(query, wanted):
    return tuple(range(query[0])) if wanted is None else wanted


def sum_at(query, shares, attribute):
    """The sum of the numerators of the atoms that have the attribute."""
    atoms = query[1]
    return sum([shares[0][k] for k in range(len(atoms)) if attribute in atoms[k]])


def first_lack(query, shares, wanted=None):
    """The least wanted attribute that shares do not cover, None if they cover all."""
    for attribute in wanted_of(query, wanted):
        if sum_at(query, shares, attribute) < shares[1]:
            return attribute
    return None


def in_least_terms(numerators, denominator):
    divisor = denominator
    for numerator in numerators:
        divisor = gcd(divisor, numerator)
    return tuple([numerator // divisor for numerator in numerators]), denominator // divisor


def least_terms(query, shares):
    check_query(query)
    check_shares(query, shares)
    return in_least_terms(shares[0], shares[1])


def are_small(shares):
    """Whether no numerator and no denominator is above what powers are made of."""
    return max(shares[0]) <= MOST and shares[1] <= MOST


def check_small(shares):
    if not are_small(shares):
        raise TooMany(MOST)


def is_within(query, counts, shares, number):
    check_query(query)
    check_counts(query, counts)
    check_shares(query, shares)
    check_number(number)
    check_small(shares)
    if number == 0 or _comes_to_nothing(counts, shares):
        return number == 0
    exponents = [-numerator for numerator in shares[0]]
    return sign_of(_known((number,) + counts), [shares[1]] + exponents) <= 0


def most_within(query, counts, shares):
    check_query(query)
    check_counts(query, counts)
    check_shares(query, shares)
    check_small(shares)
    numerators, denominator = in_least_terms(shares[0], shares[1])
    return root_below(product_of(counts, numerators), denominator)


def compared_shares(query, counts, one, other):
    check_query(query)
    check_counts(query, counts)
    check_shares(query, one)
    check_shares(query, other)
    check_small(one)
    check_small(other)
    if _comes_to_nothing(counts, one):
        return 0 if _comes_to_nothing(counts, other) else -1
    if _comes_to_nothing(counts, other):
        return 1
    exponents = [one[0][k] * other[1] - other[0][k] * one[1] for k in range(len(counts))]
    return sign_of(_known(counts), exponents)


def _comes_to_nothing(counts, shares):
    return any(counts[k] == 0 and shares[0][k] > 0 for k in range(len(counts)))


def _known(counts):
    """The counts, each 0 made a 1: where it is left its power is 0, and 0 to that is 1."""
    return [max(1, count) for count in counts]
