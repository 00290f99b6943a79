"""Matrices in the stores of queries that are not hierarchical: whoever keeps their counts multiplies."""

from coverjoin.checks import check_query, is_below
from coverjoin.errors import BadLeft, BadMatrix, BadPair, BadRight
from coverjoin.hierarchical import is_pair_of

# The most rows and columns of a matrix.
WIDTH = 20


def _are_bits(value, many):
    """Whether any value is a tuple of so many numbers, each 0 or 1."""
    return isinstance(value, tuple) and len(value) == many and all(is_below(item, 2) for item in value)


def _is_matrix(value):
    if not isinstance(value, tuple) or not 1 <= len(value) <= WIDTH:
        return False
    if not isinstance(value[0], tuple) or not 1 <= len(value[0]) <= WIDTH:
        return False
    return all(_are_bits(row, len(value[0])) for row in value)


def embedded(query, pair, matrix, left, right):
    check_query(query)
    if not is_pair_of(query, pair):
        raise BadPair("not a pair of the query")
    if not _is_matrix(matrix):
        raise BadMatrix("not a matrix of 0 and 1")
    if not _are_bits(left, len(matrix)):
        raise BadLeft("not a tuple of 0 and 1 for each row")
    if not _are_bits(right, len(matrix[0])):
        raise BadRight("not a tuple of 0 and 1 for each column")
    places = [(row, column) for row in range(len(matrix)) for column in range(len(matrix[0]))]
    _, one, other, first, both, second = pair
    tables = []
    for at in range(len(query[1])):
        held = places
        if at == first:
            held = [place for place in places if left[place[0]] == 1]
        if at == both:
            held = [place for place in places if matrix[place[0]][place[1]] == 1]
        if at == second:
            held = [place for place in places if right[place[1]] == 1]
        tables.append(tuple(sorted({_row(query[1][at], one, other, place) for place in held})))
    return tuple(tables)


def _row(atom, one, other, place):
    """The row of an atom with a matrix's row at one attribute, its column at the other, and 0 elsewhere."""
    numbers = {one: place[0], other: place[1]}
    return tuple([numbers.get(attribute, 0) for attribute in atom])
