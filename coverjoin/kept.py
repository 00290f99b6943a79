"""Stores that are kept under changes, with entries that tell their answers."""

from coverjoin.answers import answers
from coverjoin.checks import are_from, check_atom, check_attribute, check_query, check_store, is_below, is_from
from coverjoin.errors import BadAbove, BadAnswer, BadBits, BadPlace, BadRow, BadValues, NotThere, There
from coverjoin.hierarchical import end_of, sequence, told_forest, way_down
from coverjoin.tables import parts_at

# The most bits of a number.
BITS = 59


def _check_bits(bits):
    if not is_from(bits, 1) or bits > BITS:
        raise BadBits("not a number from 1 to 59")


def _are_short(numbers, bits):
    """Whether all numbers are below 2 to the power of bits."""
    return all(number < 1 << bits for number in numbers)


class Forest:
    """The told forest of a hierarchical query, and where its atoms end."""

    def __init__(self, query):
        forest = told_forest(query)
        many = query[0]
        self.parents = forest
        self.sequence = sequence(query)
        self.ways = [way_down(forest, attribute) for attribute in range(many)]
        self.ends = [end_of(forest, atom) for atom in query[1]]
        self.under = [[other for other in range(many) if forest[other] == attribute] for attribute in range(many)]
        # For each atom the places of its attributes, in the sequence of the way to its end.
        self.places = []
        for at in range(len(query[1])):
            self.places.append([query[1][at].index(attribute) for attribute in self.ways[self.ends[at]]])

    def turned(self, at, rows):
        """The rows of an atom, with their numbers in the sequence of the way to its end."""
        return parts_at(rows, self.places[at])


def _all_extensions(forest, store):
    """For each attribute the dict from the values on the way to it to how many extensions they have,
    without those that have none."""
    told = [{} for _ in forest.ways]
    # Those below an attribute come behind it in the sequence.
    for attribute in forest.sequence[::-1]:
        asked = [_sums(told[other]) for other in forest.under[attribute]]
        for at in range(len(store)):
            if forest.ends[at] == attribute:
                asked.append({row: 1 for row in forest.turned(at, store[at])})
        told[attribute] = _products(asked)
    return told


def _sums(numbers):
    """The sums of the numbers of all values that are alike but for the last one."""
    sums = {}
    for values, number in numbers.items():
        sums[values[:-1]] = sums.get(values[:-1], 0) + number
    return sums


def _products(dicts):
    """The products of the numbers that dicts tell for the same values, where all tell one."""
    products = {}
    for values in dicts[0]:
        if all(values in numbers for numbers in dicts):
            product = 1
            for numbers in dicts:
                product = product * numbers[values]
            products[values] = product
    return products


def _in_sequence(entries):
    return {key: entries[key] for key in sorted(entries)}


def _check_hierarchical(query):
    check_query(query)
    return Forest(query)


def extensions(query, store, attribute, values):
    forest = _check_hierarchical(query)
    check_store(query, store)
    check_attribute(query, attribute)
    if not are_from(values, len(forest.ways[attribute]), 0):
        raise BadAbove("not a tuple with a number for each attribute of the way")
    return _all_extensions(forest, store)[attribute].get(values, 0)


def entries(query, store, bits):
    forest = _check_hierarchical(query)
    check_store(query, store)
    _check_bits(bits)
    if not all(_are_short(row, bits) for table in store for row in table):
        raise BadValues("a number with too many bits")
    told = {}
    extended = _all_extensions(forest, store)
    for attribute in range(query[0]):
        for values, number in extended[attribute].items():
            for level in range(bits + 1):
                key = (attribute, values[:-1], level, values[-1] >> level)
                told[key] = told.get(key, 0) + number
    return _in_sequence(told)


class Kept:
    """A store, empty at first, that is kept under changes with its entries."""

    def __init__(self, query, bits):
        forest = _check_hierarchical(query)
        _check_bits(bits)
        self.query = query
        self.bits = bits
        self._forest = forest
        self._tables = [{} for _ in query[1]]
        # The entries that are not 0.
        self._entries = {}

    def store(self):
        return tuple([tuple(sorted(table)) for table in self._tables])

    def entries(self):
        return _in_sequence(self._entries)

    def count(self):
        return self._others((), 0)

    def _entry(self, attribute, above, level, prefix):
        return self._entries.get((attribute, above, level, prefix), 0)

    def _sum(self, attribute, above):
        """The sum of all extensions behind what is above the attribute."""
        return self._entry(attribute, above, self.bits, 0)

    def _check_row(self, atom, row):
        check_atom(self.query, atom)
        if not are_from(row, len(self.query[1][atom]), 0) or not _are_short(row, self.bits):
            raise BadRow("not a row for the atom")

    def put(self, atom, row):
        self._check_row(atom, row)
        if row in self._tables[atom]:
            raise There("the row is there already")
        self._tables[atom][row] = True
        return self._changed(atom, row)

    def take(self, atom, row):
        self._check_row(atom, row)
        if row not in self._tables[atom]:
            raise NotThere("the row is not there")
        del self._tables[atom][row]
        return self._changed(atom, row)

    def _changed(self, atom, row):
        """Sets the entries that hang on a row of the atom, from its end up to the root, and tells those
        that change."""
        values = self._forest.turned(atom, [row])[0]
        changes = []
        for attribute in self._forest.ways[self._forest.ends[atom]][::-1]:
            more = self._product(attribute, values) - self._entry(attribute, values[:-1], 0, values[-1])
            if more != 0:
                changes.extend(self._changed_at(attribute, values, more))
            values = values[:-1]
        return tuple(sorted(changes))

    def _product(self, attribute, values):
        """How many extensions the values have, by the rows and the entries below."""
        for at in range(len(self._tables)):
            if self._forest.ends[at] == attribute and not self._has_turned(at, values):
                return 0
        product = 1
        for other in self._forest.under[attribute]:
            product = product * self._sum(other, values)
        return product

    def _has_turned(self, at, values):
        """Whether the table has the row whose numbers are these, on the way to the atom's end."""
        places = self._forest.places[at]
        return tuple([values[places.index(k)] for k in range(len(places))]) in self._tables[at]

    def _changed_at(self, attribute, values, more):
        changes = []
        for level in range(self.bits + 1):
            key = (attribute, values[:-1], level, values[-1] >> level)
            before = self._entries.get(key, 0)
            if before + more == 0:
                del self._entries[key]
            else:
                self._entries[key] = before + more
            changes.append((key, before, before + more))
        return changes

    def _above(self, known, attribute):
        """What known values, those of the first attributes of the sequence, are on the way to the
        attribute's parent."""
        order = self._forest.sequence
        return tuple([known[order.index(other)] for other in self._forest.ways[attribute][:-1]])

    def _others(self, known, place):
        """How many ways there are for those that come in the sequence from this place on and hang on
        nothing but known values, those of the attributes ahead, each with all below it."""
        order = self._forest.sequence
        ahead = order[:len(known)]
        ways = 1
        for attribute in order[place:]:
            parent = self._forest.parents[attribute]
            if parent is None or parent in ahead:
                ways = ways * self._sum(attribute, self._above(known, attribute))
        return ways

    def kth(self, place):
        if not is_below(place, self.count()):
            raise BadPlace("not a number from 0 on, less than there are answers")
        known = ()
        while len(known) < self.query[0]:
            attribute = self._forest.sequence[len(known)]
            above = self._above(known, attribute)
            others = self._others(known, len(known) + 1)
            value, less = self._value_at(attribute, above, place // others)
            place = place - less * others
            known = known + (value,)
        return self._in_query_sequence(known)

    def _in_query_sequence(self, known):
        return tuple([known[self._forest.sequence.index(attribute)] for attribute in range(self.query[0])])

    def _value_at(self, attribute, above, place):
        """The value that the extension at this place has, and how many come with lesser values."""
        less = 0
        prefix = 0
        for level in range(self.bits - 1, -1, -1):
            prefix = 2 * prefix
            lower = self._entry(attribute, above, level, prefix)
            if place - less >= lower:
                less = less + lower
                prefix = prefix + 1
        return prefix, less

    def _less(self, attribute, above, value):
        """How many extensions come with lesser values."""
        less = 0
        for level in range(self.bits):
            prefix = value >> level
            if prefix & 1 == 1:
                less = less + self._entry(attribute, above, level, prefix - 1)
        return less

    def _check_answer(self, answer):
        if not are_from(answer, self.query[0], 0) or not _are_short(answer, self.bits):
            raise BadAnswer("not a tuple with a number for each attribute")

    def place(self, answer):
        self._check_answer(answer)
        found, there = self._place_of(answer)
        return found if there else None

    def ahead(self, answer):
        self._check_answer(answer)
        return self._place_of(answer)[0]

    def _place_of(self, answer):
        """The pair of how many answers are ahead of this one, and whether it is one."""
        known = ()
        found = 0
        for attribute in self._forest.sequence:
            above = self._above(known, attribute)
            value = answer[attribute]
            found = found + self._less(attribute, above, value) * self._others(known, len(known) + 1)
            if self._entry(attribute, above, 0, value) == 0:
                return found, False
            known = known + (value,)
        return found, True

    def following(self, answer):
        self._check_answer(answer)
        found, there = self._place_of(answer)
        place = found + 1 if there else found
        return self.kth(place) if place < self.count() else None

    def is_answer(self, answer):
        if not are_from(answer, self.query[0], 0):
            return False
        atoms = self.query[1]
        return all(parts_at([answer], atoms[at])[0] in self._tables[at] for at in range(len(atoms)))

    def answers(self):
        order = self._forest.sequence
        turned = sorted(parts_at(answers(self.query, self.store()), order))
        return [self._in_query_sequence(known) for known in turned]
