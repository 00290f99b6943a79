"""A table with its rows turned by an order, asked beginning by beginning."""

from coverjoin.checks import check_atom, check_number, check_store, is_number
from coverjoin.errors import BadStart
from coverjoin.tables import check_order, parts_at


def place_from(numbers, least):
    """The place of the first of the ascending numbers that is not below least, their number if none is."""
    low, high = 0, len(numbers)
    while low < high:
        middle = (low + high) // 2
        if numbers[middle] < least:
            low = middle + 1
        else:
            high = middle
    return low


class Trie:
    """The table of one atom, turned by an order; a start is what a turned row begins with."""

    def __init__(self, query, store, order, at):
        check_store(query, store)
        check_order(query, order)
        check_atom(query, at)
        atom = query[1][at]
        self.attributes = tuple([attribute for attribute in order if attribute in atom])
        places = [atom.index(attribute) for attribute in self.attributes]
        self._rows = tuple(sorted(parts_at(store[at], places)))
        # For each start how many rows begin with it, and what stands behind it in them.
        self._many = {}
        self._behind = {}
        for row in self._rows:
            self._put(row)

    def _put(self, row):
        for length in range(len(row) + 1):
            start = row[:length]
            self._many[start] = self._many.get(start, 0) + 1
        for length in range(len(row)):
            behind = self._behind.setdefault(row[:length], [])
            # Rows come ascending, so a number that is there already is the last one.
            if len(behind) == 0 or behind[-1] != row[length]:
                behind.append(row[length])

    def rows(self):
        return self._rows

    def __contains__(self, value):
        if not isinstance(value, tuple):
            return False
        # What is no number is kept from being compared: True would be taken for 1.
        for item in value:
            if not is_number(item):
                return False
        return value in self._many

    def many(self, start):
        if start not in self:
            raise BadStart("not a start of the table")
        return self._many[start]

    def _numbers(self, start):
        if start not in self or len(start) == len(self.attributes):
            raise BadStart("not a start of the table, or a whole row")
        return self._behind[start]

    def next_numbers(self, start):
        return tuple(self._numbers(start))

    def seek(self, start, number):
        numbers = self._numbers(start)
        check_number(number)
        place = place_from(numbers, number)
        return numbers[place] if place < len(numbers) else None

    def hole(self, start, number):
        numbers = self._numbers(start)
        check_number(number)
        place = place_from(numbers, number)
        above = numbers[place] if place < len(numbers) else None
        if above == number:
            return None
        return numbers[place - 1] if place > 0 else None, above
