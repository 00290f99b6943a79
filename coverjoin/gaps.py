"""Walks through wished answers with few steps between two of them, and through unions of such."""

from coverjoin.checks import are_from, check_store, is_below
from coverjoin.counts import Layers, check_smooth, check_wished
from coverjoin.errors import BadLots, BadOrder, BadPlace, BadWide, NoAnswer, NotConnected
from coverjoin.tries import place_from
from coverjoin.wished import parts, path_of, traces

# The most lots of a union.
LOTS = 4

# The items of a lot: a query, a store, wished attributes and an order.
ITEMS = 4


def _check_connected(query, wished):
    path = path_of(query, wished)
    if path is not None:
        raise NotConnected(path)


def _check_order(wished, order):
    many = len(wished)
    # What is no number is kept from being compared: True would be taken for 1.
    if not are_from(order, many, 0) or tuple(sorted(order)) != wished:
        raise BadOrder("not the wished attributes, each once")


class Walk:
    """A walk through the wished answers, in the sequence of an order."""

    def __init__(self, query, store, wished, order):
        check_store(query, store)
        check_wished(query, wished)
        _check_connected(query, wished)
        _check_order(wished, order)
        check_smooth(query, order)
        self._wished = wished
        self._order = order
        self._layers = Layers(traces(query, wished), parts(query, store, wished), order)
        self._steps = 0
        # The answer that comes next, its numbers in the sequence of the order, if nothing is told
        # ahead of it; otherwise None, and the next one comes behind what was told last.
        self._coming = None if self._layers.total == 0 else self._first_behind(())
        self._told = None

    def forth(self):
        if self._coming is not None:
            self._steps += len(self._order)
            self._told = self._coming
            self._coming = None
        elif self._told is not None:
            self._told = self._behind_told()
        return None if self._told is None else self._named(self._told)

    def _behind_told(self):
        for k in range(len(self._order) - 1, -1, -1):
            numbers = self._layers.numbers(self._told[:k])
            place = place_from(numbers, self._told[k]) + 1
            if place < len(numbers):
                self._steps += len(self._order) - k
                return self._first_behind(self._told[:k] + (numbers[place],))
        return None

    def _first_behind(self, known):
        """The first answer that begins so: all rows are live and the order is smooth, so it
        begins with each of the numbers that follow."""
        while len(known) < len(self._order):
            known = known + (self._layers.numbers(known)[0],)
        return known

    def _named(self, turned):
        return tuple([turned[self._order.index(attribute)] for attribute in self._wished])

    def _turned(self, answer):
        return tuple([answer[self._wished.index(attribute)] for attribute in self._order])

    def count(self):
        return self._layers.total

    def at(self, place):
        if not is_below(place, self._layers.total):
            raise BadPlace("not a number from 0 on, less than there are wished answers")
        return self._named(self._layers.at(place))

    def to(self, place):
        if not is_below(place, self._layers.total + 1):
            raise BadPlace("not a number from 0 on, at most as there are wished answers")
        self._told = None
        self._coming = None if place == self._layers.total else self._layers.at(place)

    def place(self, answer):
        if not self.has(answer):
            raise NoAnswer("not a wished answer")
        return self._layers.place(self._turned(answer))

    def has(self, answer):
        if not are_from(answer, len(self._wished), 0):
            return False
        return self._layers.has(self._turned(answer))

    def steps(self):
        return self._steps

    def looks(self):
        return self._layers.compared


class Union:
    """All wished answers of some lots, each told once, by a walk for each lot."""

    def __init__(self, lots):
        if not isinstance(lots, (list, tuple)) or not 1 <= len(lots) <= LOTS:
            raise BadLots("not one to four lots")
        if not all(isinstance(lot, tuple) and len(lot) == ITEMS for lot in lots):
            raise BadLots("not a tuple of four items")
        self._walks = [Walk(query, store, wished, order) for query, store, wished, order in lots]
        if len({len(lot[2]) for lot in lots}) != 1:
            raise BadWide("not equally many wished attributes")

    def forth(self):
        # Each answer that a walk behind has as well is left to that one: in its place, one of the
        # walks' behind is told, which may be another one, but in the end all are.
        for k in range(len(self._walks)):
            answer = self._walks[k].forth()
            if answer is not None and not any(walk.has(answer) for walk in self._walks[k + 1:]):
                return answer
        return None

    def steps(self):
        return sum([walk.steps() for walk in self._walks])
