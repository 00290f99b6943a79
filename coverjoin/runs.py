"""The engine, going on from answer to answer, past what is not wanted."""

from coverjoin.checks import are_from, is_from
from coverjoin.engine import Lists, asked_for, check_engine, check_level, leader_of, lists_met, parts_behind
from coverjoin.errors import BadMost, BadPoint, NoAnswer
from coverjoin.tries import place_from


class Stand:
    """Where a run stands at one level: a beginning, its lists, and the leader's numbers to come."""

    def __init__(self, beginning, level, parts):
        self.beginning = beginning
        self.parts = parts
        self.lists = lists_met(level, parts)
        self.leader = leader_of(self.lists)
        self._numbers = list(self.lists[self.leader])
        self._place = 0

    def next_number(self, floor):
        """The leader's next number that is not passed over, None if there is none."""
        level = len(self.beginning)
        start = floor[:level]
        if self.beginning < start:
            self._place = len(self._numbers)
        elif self.beginning == start and level < len(floor):
            self._place = max(self._place, place_from(self._numbers, floor[level]))
        if self._place == len(self._numbers):
            return None
        self._place += 1
        return self._numbers[self._place - 1]


class Run:
    """The engine, going on from answer to answer, which keeps a floor below which nothing is told."""

    def __init__(self, query, store, order):
        check_engine(query, store, order)
        self._query = query
        self._order = order
        lists = Lists(query, store)
        among = list(range(len(store)))
        self._levels = lists.levels(among, order)
        self._steps = [0] * len(order)
        self._asks = [0] * len(order)
        self._floor = ()
        # The answer that was told last, turned, None if it was none.
        self._told = None
        self._stands = []
        if lists.have_rows(among):
            self._stands.append(Stand((), self._levels[0], lists.start()))

    def next_answer(self):
        self._told = self._next_told()
        if self._told is None:
            return None
        return tuple([self._told[self._order.index(attribute)] for attribute in range(len(self._order))])

    def _next_told(self):
        while len(self._stands) > 0:
            stand = self._stands[-1]
            number = stand.next_number(self._floor)
            if number is None:
                self._stands.pop()
            elif self._is_further(stand, number):
                beginning = stand.beginning + (number,)
                level = len(beginning)
                if level == len(self._order):
                    return beginning
                parts = parts_behind(self._levels[level - 1], stand.parts, number)
                self._stands.append(Stand(beginning, self._levels[level], parts))
        return None

    def _is_further(self, stand, number):
        """Whether the number makes a beginning of the next level: a step, and its asks."""
        level = len(stand.beginning)
        asks, have_it = asked_for(stand.lists, stand.leader, number)
        self._steps[level] += 1
        self._asks[level] += asks
        return have_it

    def steps(self):
        return tuple(self._steps)

    def asks(self):
        return tuple(self._asks)

    def seek(self, point):
        if not are_from(point, len(self._order), 0):
            raise BadPoint("not a tuple of a number from 0 on for each attribute")
        self._floor = max(self._floor, tuple([point[attribute] for attribute in self._order]))

    def leave(self, level):
        check_level(self._query, level, 1)
        if self._told is None:
            raise NoAnswer("no answer was told last")
        self._floor = max(self._floor, self._told[:level - 1] + (self._told[level - 1] + 1,))


def first_by(query, store, order, most):
    run = Run(query, store, order)
    if not is_from(most, 0):
        raise BadMost("not a number from 0 on")
    found = []
    while len(found) < most:
        answer = run.next_answer()
        if answer is None:
            return tuple(found)
        found.append(answer)
    return tuple(found)


def starts_by(query, store, order, level):
    run = Run(query, store, order)
    check_level(query, level, 1)
    starts = []
    answer = run.next_answer()
    while answer is not None:
        starts.append(tuple([answer[attribute] for attribute in order[:level]]))
        run.leave(level)
        answer = run.next_answer()
    return tuple(starts)
