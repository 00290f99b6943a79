"""Boxes of points, and those in which a table has no row."""

from coverjoin.checks import are_from, check_store, is_below, is_from, is_pair
from coverjoin.errors import BadAttribute, BadBox, BadIndex, BadMany, BadPoint
from coverjoin.tables import check_order
from coverjoin.tries import Trie

# The last number, which no stretch has as its high: None is told for it.
LAST = 10 ** 18 - 1

# The most attributes of a box.
MANY = 8

LINE = (0, None)


def check_many(many):
    if not is_from(many, 1) or many > MANY:
        raise BadMany("not a number from 1 to 8")


def _is_stretch(value):
    if not is_pair(value) or not is_from(value[0], 0):
        return False
    return value[1] is None or (is_from(value[1], value[0]) and value[1] < LAST)


def is_box_of(many, value):
    """Whether any value is a box for so many attributes."""
    return isinstance(value, tuple) and len(value) == many and all(_is_stretch(stretch) for stretch in value)


def is_box(many, value):
    check_many(many)
    return is_box_of(many, value)


def whole(many):
    check_many(many)
    return (LINE,) * many


def alone(number):
    """The stretch that has this number alone."""
    return number, None if number == LAST else number


def unit(point):
    if not isinstance(point, tuple) or not 1 <= len(point) <= MANY or not are_from(point, len(point), 0):
        raise BadPoint("not a tuple of 1 to 8 numbers from 0 on")
    return tuple([alone(number) for number in point])


def _check_some_box(box):
    if not isinstance(box, tuple) or not 1 <= len(box) <= MANY or not is_box_of(len(box), box):
        raise BadBox("not a box")


def _check_two(one, other):
    _check_some_box(one)
    if not is_box_of(len(one), other):
        raise BadBox("not a box for as many attributes")


def has_number(stretch, number):
    low, high = stretch
    return low <= number and (high is None or number <= high)


def holds(box, point):
    _check_some_box(box)
    if not are_from(point, len(box), 0):
        raise BadPoint("not a point for as many attributes")
    return all(has_number(box[k], point[k]) for k in range(len(box)))


def in_common(one, other):
    """The stretch of the numbers that both stretches have, None if there are none."""
    low = max(one[0], other[0])
    highs = [high for _, high in (one, other) if high is not None]
    if len(highs) == 0:
        return low, None
    return (low, min(highs)) if low <= min(highs) else None


def overlap(one, other):
    _check_two(one, other)
    stretches = [in_common(one[k], other[k]) for k in range(len(one))]
    return None if None in stretches else tuple(stretches)


def lies_in(one, other):
    _check_two(one, other)
    return all(in_common(one[k], other[k]) == one[k] for k in range(len(one)))


def _touch(one, other):
    """Whether two stretches have a number in common, or one ends right ahead of the other."""
    if in_common(one, other) is not None:
        return True
    return other[0] - 1 == one[1] or one[0] - 1 == other[1]


def hull(one, other):
    """The stretch from the lesser low to the greater high."""
    if one[1] is None or other[1] is None:
        return min(one[0], other[0]), None
    return min(one[0], other[0]), max(one[1], other[1])


def resolved(one, other, attribute, without=None):
    """The resolvent of two boxes at an attribute, None if there is none.

    Without "touch" or without "meet", rules of care, what these ask for is not asked for, and the
    stretches at the attribute, or at all of them, reach from the lesser low to the greater high.
    """
    if without != "touch" and not _touch(one[attribute], other[attribute]):
        return None
    if without == "meet":
        return tuple([hull(one[k], other[k]) for k in range(len(one))])
    stretches = [in_common(one[k], other[k]) for k in range(len(one))]
    stretches[attribute] = hull(one[attribute], other[attribute])
    return None if None in stretches else tuple(stretches)


def resolve(one, other, attribute):
    _check_two(one, other)
    if not is_below(attribute, len(one)):
        raise BadAttribute("not an attribute of the boxes")
    return resolved(one, other, attribute)


def check_index(store, index):
    if not is_below(index, len(store)):
        raise BadIndex("not the index of a table")


def _has_row(box, atom, row):
    return all(has_number(box[atom[k]], row[k]) for k in range(len(atom)))


def is_gap_of(atom, table, box):
    """Whether no row of the table, one for the atom, is in the box."""
    return not any(_has_row(box, atom, row) for row in table)


def is_gap(query, store, index, box):
    check_store(query, store)
    check_index(store, index)
    if not is_box_of(query[0], box):
        raise BadBox("not a box for the attributes of the query")
    return is_gap_of(query[1][index], store[index], box)


def stretches_without(numbers):
    """The longest stretches that have none of the ascending numbers, by low."""
    stretches = []
    low = 0
    for number in numbers:
        if low < number:
            stretches.append((low, number - 1))
        low = number + 1
    if low <= LAST:
        stretches.append((low, None))
    return stretches


def gap_of(many, attributes, prefix, stretch):
    """The box with the numbers of the prefix alone at the first of the attributes, and the stretch
    at the next one."""
    box = [LINE] * many
    for k in range(len(prefix)):
        box[attributes[k]] = alone(prefix[k])
    box[attributes[len(prefix)]] = stretch
    return tuple(box)


def trie_gaps(query, store, order):
    check_store(query, store)
    check_order(query, order)
    gaps = []
    for index in range(len(store)):
        trie = Trie(query, store, order, index)
        for length in range(len(trie.attributes)):
            # The empty prefix is there even if the table has no rows.
            prefixes = [()] if length == 0 else sorted({row[:length] for row in trie.rows()})
            for prefix in prefixes:
                numbers = trie.next_numbers(prefix) if prefix in trie else ()
                for stretch in stretches_without(numbers):
                    gaps.append((index, gap_of(query[0], trie.attributes, prefix, stretch)))
    return gaps
