"""How many answers there are, of which rows, and the answer at a place, without telling any other."""

from coverjoin.acyclic import check_acyclic, check_tree, rooted, tree_of
from coverjoin.answers import is_answer
from coverjoin.checks import are_below, check_query, check_store, is_below
from coverjoin.cores import shared_by
from coverjoin.errors import BadOrder, BadPlace, BadWished, NoAnswer, NotSmooth
from coverjoin.reduce import by_depth, common_places, live_along
from coverjoin.tables import check_order, parts_at
from coverjoin.tries import place_from


def weights(query, store, tree):
    check_store(query, store)
    check_tree(query, tree)
    return _weights(query, store, tree)


def _weights(query, store, tree):
    told = [[1] * len(table) for table in store]
    # Each atom comes ahead of its parent, so its own weights are known by then.
    for at in by_depth(tree)[::-1]:
        up = tree[at]
        if up != at:
            here, there = common_places(query, at, up)
            sums = _sums(parts_at(store[at], here), told[at])
            parts = parts_at(store[up], there)
            told[up] = [told[up][k] * sums.get(parts[k], 0) for k in range(len(parts))]
    return tuple([tuple(row) for row in told])


def _sums(parts, numbers):
    """The sums of the numbers of the rows with each part."""
    sums = {}
    for k in range(len(parts)):
        sums[parts[k]] = sums.get(parts[k], 0) + numbers[k]
    return sums


def is_weights(query, store, tree, value):
    told = weights(query, store, tree)
    # What is no int is kept from being compared: True would be taken for 1.
    if not isinstance(value, tuple) or not all(_are_ints(row) for row in value):
        return False
    return value == told


def _are_ints(value):
    return isinstance(value, tuple) and all(isinstance(item, int) and not isinstance(item, bool) for item in value)


def uses(query, store):
    check_store(query, store)
    check_acyclic(query)
    tree = tree_of(query)
    return tuple([_weights(query, store, rooted(query, tree, at))[at] for at in range(len(store))])


def count(query, store):
    check_store(query, store)
    check_acyclic(query)
    return sum(_weights(query, store, rooted(query, tree_of(query), 0))[0])


def are_neighbours(atoms, one, other):
    return any(one in atom and other in atom for atom in atoms)


def _is_sequence(many, value):
    """Whether any value is a tuple of unlike numbers below many."""
    if not isinstance(value, tuple) or not all(is_below(item, many) for item in value):
        return False
    return len(set(value)) == len(value)


def trio(query, order):
    check_query(query)
    if not _is_sequence(query[0], order):
        raise BadOrder("not a tuple of unlike attributes")
    for k in range(len(order)):
        found = _trio_ending(query, order[:k], order[k])
        if found is not None:
            return found
    return None


def _trio_ending(query, ahead, later):
    """The first trio of which two attributes are ahead and the third one is this, None if there is none."""
    beside = [attribute for attribute in ahead if are_neighbours(query[1], attribute, later)]
    for j in range(len(beside)):
        for other in beside[j + 1:]:
            if not are_neighbours(query[1], beside[j], other):
                return beside[j], other, later
    return None


def check_wished(query, wished):
    if not are_below(wished, query[0]):
        raise BadWished("not an ascending tuple of unlike attributes")


def check_smooth(query, order):
    found = trio(query, order)
    if found is not None:
        raise NotSmooth(found)


def smooth_order(query, wished):
    check_query(query)
    check_wished(query, wished)
    check_acyclic(query)
    return _smooth_behind(query, wished, ())


def _smooth_behind(query, wished, order):
    """The first smooth order of the wished attributes that begins so, None if there is none."""
    if len(order) == len(wished):
        return order
    for attribute in wished:
        if attribute not in order and _trio_ending(query, order, attribute) is None:
            found = _smooth_behind(query, wished, order + (attribute,))
            if found is not None:
                return found
    return None


def dead_end(query, order):
    check_query(query)
    check_acyclic(query)
    check_order(query, order)
    found = trio(query, order)
    if found is None:
        return None
    # Two answers: 0 at all attributes, and 1 at just those of the trio. At the first one of these
    # as in the one answer, at the second as in the other, each table has rows, but at the third none fits.
    ones = tuple([1 if attribute in found else 0 for attribute in range(query[0])])
    store = tuple([tuple(sorted(set(parts_at([(0,) * query[0], ones], atom)))) for atom in query[1]])
    ahead = order[:order.index(found[1]) + 1]
    return store, tuple([1 if attribute == found[1] else 0 for attribute in ahead])


class Layers:
    """The answers of tables all of whose rows are live, attribute by attribute of a smooth order.

    As the order is smooth, those ahead of an attribute that are its neighbours are neighbours
    among themselves, and one table has them all with it: so this table alone tells its numbers.
    """

    def __init__(self, atoms, tables, order):
        many = len(order)
        self._ahead = [[j for j in range(k) if are_neighbours(atoms, order[j], order[k])] for k in range(many)]
        # How often numbers were compared to find answers by places, or places by answers.
        self.compared = 0
        # For each attribute a dict from the numbers of its neighbours ahead to its numbers, and to
        # how many answers, so far as they hang on it, there are below each of them, and in all.
        self._lists = [{} for _ in range(many)]
        for k in range(many - 1, -1, -1):
            self._lists[k] = self._layer(atoms, tables, order, k)
        self.total = 0
        if all(len(table) > 0 for table in tables):
            self.total = self._others(())

    def _layer(self, atoms, tables, order, k):
        attributes = [order[j] for j in self._ahead[k]] + [order[k]]
        holding = [at for at in range(len(atoms)) if shared_by(attributes, atoms[at]) == len(attributes)]
        below = [c for c in range(k + 1, len(order)) if k in self._ahead[c][-1:]]
        lists = {}
        atom = atoms[holding[0]]
        rows = parts_at(tables[holding[0]], [atom.index(attribute) for attribute in attributes])
        for row in sorted(set(rows)):
            numbers, sums = lists.setdefault(row[:-1], ([], [0]))
            numbers.append(row[-1])
            sums.append(sums[-1] + self._weight(k, row, below))
        return lists

    def _weight(self, k, row, below):
        """How many ways there are for the attributes that hang on the row."""
        known = {}
        for place, number in zip(self._ahead[k] + [k], row):
            known[place] = number
        weight = 1
        for c in below:
            weight = weight * self._list(c, known)[1][-1]
        return weight

    def _list(self, k, known):
        return self._lists[k][tuple([known[j] for j in self._ahead[k]])]

    def _others(self, known):
        """How many ways there are for the attributes from this place on, but for this place's own, if
        there is one known less, that hang on what is known."""
        ways = 1
        for c in range(len(known), len(self._lists)):
            if len(self._ahead[c]) == 0 or self._ahead[c][-1] < len(known):
                ways = ways * self._list(c, known)[1][-1]
        return ways

    def numbers(self, known):
        """The numbers that follow behind known ones, ascending."""
        return self._list(len(known), known)[0]

    def has(self, answer):
        """Whether a tuple of numbers, in the sequence of the order, is an answer."""
        if self.total == 0:
            return False
        for k in range(len(answer)):
            numbers = self._lists[k].get(tuple([answer[j] for j in self._ahead[k]]), ([], []))[0]
            place = place_from(numbers, answer[k])
            if place == len(numbers) or numbers[place] != answer[k]:
                return False
        return True

    def at(self, place):
        """The answer, in the sequence of the order, with this place."""
        known = ()
        while len(known) < len(self._lists):
            numbers, sums = self._list(len(known), known)
            # Each way for this attribute goes with each one for the others.
            others = self._others(known) // sums[-1]
            k = self._found(sums, len(numbers), place // others)
            place = place - sums[k] * others
            known = known + (numbers[k],)
        return known

    def place(self, answer):
        place = 0
        for k in range(len(answer)):
            numbers, sums = self._list(k, answer)
            others = self._others(answer[:k]) // sums[-1]
            place = place + sums[self._found(numbers, len(numbers), answer[k])] * others
        return place

    def _found(self, items, many, number):
        """The place of the last of so many first items, ascending ones, that is not above the number,
        as the first one never is."""
        low, high = 0, many
        while high - low > 1:
            middle = (low + high) // 2
            self.compared += 1
            if items[middle] <= number:
                low = middle
            else:
                high = middle
        return low


def _layers(query, store, order):
    return Layers(query[1], live_along(query, store, tree_of(query)), order)


def kth(query, store, order, place):
    check_store(query, store)
    check_acyclic(query)
    check_order(query, order)
    check_smooth(query, order)
    layers = _layers(query, store, order)
    if not is_below(place, layers.total):
        raise BadPlace("not a number from 0 on, less than there are answers")
    found = layers.at(place)
    return tuple([found[order.index(attribute)] for attribute in range(query[0])])


def place_of(query, store, order, answer):
    check_store(query, store)
    check_acyclic(query)
    check_order(query, order)
    check_smooth(query, order)
    if not is_answer(query, store, answer):
        raise NoAnswer("not an answer")
    return _layers(query, store, order).place(tuple([answer[attribute] for attribute in order]))
