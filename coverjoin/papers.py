"""The engine's papers that no answer lacks, and the judge of them."""

from coverjoin.answers import answers
from coverjoin.boxes import LAST, gap_of, is_box_of, is_gap_of, unit, whole
from coverjoin.checks import LIMIT, are_from, check_store, is_ascending, is_below, is_from, is_pair
from coverjoin.covering import Lines, last_shown
from coverjoin.errors import BadNumber
from coverjoin.tables import check_order, parts_at
from coverjoin.tries import Trie, place_from

# The greatest size of a skew store.
SIZE = 400


def _stretch_around(numbers, number):
    """The longest stretch with the number that has none of the ascending numbers; None if it is one."""
    place = place_from(numbers, number)
    if place == len(numbers):
        return 0 if place == 0 else numbers[place - 1] + 1, None
    if numbers[place] == number:
        return None
    return 0 if place == 0 else numbers[place - 1] + 1, numbers[place] - 1


class EngineWalk:
    """The walk of an order. What it meets behind known numbers hangs on *starts* alone: for each atom
    what is known of its turned row, or None if this is all of it."""

    def __init__(self, query, store, order):
        self.depth = query[0]
        self.order = order
        self._tries = [Trie(query, store, order, at) for at in range(len(store))]
        atoms = query[1]
        self._among = [[at for at in range(len(atoms)) if attribute in atoms[at]] for attribute in order]

    def start(self):
        return tuple([() for _ in self._tries])

    def _list(self, at, start):
        # The empty start is there even if the table has no rows.
        return self._tries[at].next_numbers(start) if start in self._tries[at] else ()

    def shortest(self, level, starts):
        """The length of the shortest list."""
        return min([len(self._list(at, starts[at])) for at in self._among[level]])

    def met(self, level, starts):
        """What is met at the level, one behind another: pairs of a number and the gap that is met
        there, a pair of a table's index and a box, or None if all lists have the number."""
        lists = [(at, self._list(at, starts[at])) for at in self._among[level]]
        found = []
        number = 0
        while number is not None:
            at, stretch = _furthest_around(lists, number)
            if stretch is None:
                found.append((number, None))
                high = number
            else:
                found.append((number, (at, gap_of(self.depth, self._tries[at].attributes, starts[at], stretch))))
                high = stretch[1]
            number = None if high in (None, LAST) else high + 1
        return found

    def behind(self, level, starts, number):
        """The starts when the number is known at the level as well."""
        known = list(starts)
        for at in self._among[level]:
            whole_row = len(starts[at]) + 1 == len(self._tries[at].attributes)
            known[at] = None if whole_row else starts[at] + (number,)
        return tuple(known)


def _furthest_around(lists, number):
    """The atom and the stretch of the list without the number that reaches furthest, of the first one
    of several; the stretch is None if all lists have the number."""
    best = (None, None)
    reach = 0
    for at, numbers in lists:
        stretch = _stretch_around(numbers, number)
        if stretch is not None:
            high = LIMIT if stretch[1] is None else stretch[1]
            if best[1] is None or high > reach:
                best = (at, stretch)
                reach = high
    return best


def _meet_gaps(walk, level, starts, seen, gaps):
    """Puts all gaps that are met behind the starts into gaps, and all starts into seen: nothing new
    is met behind those that are there already."""
    seen[starts] = True
    if level == walk.depth:
        return
    for number, gap in walk.met(level, starts):
        if gap is not None:
            gaps[gap] = True
        else:
            behind = walk.behind(level, starts, number)
            if behind not in seen:
                _meet_gaps(walk, level + 1, behind, seen, gaps)


def _walk_of(query, store, order):
    check_store(query, store)
    check_order(query, order)
    return EngineWalk(query, store, order)


def _gaps_of(walk):
    gaps = {}
    _meet_gaps(walk, 0, walk.start(), {}, gaps)
    return list(gaps)


def gaps_met(query, store, order):
    return _gaps_of(_walk_of(query, store, order))


def walk_levels(query, store, order):
    walk = _walk_of(query, store, order)
    levels = []
    # How often known numbers come to each of the starts of a level.
    states = {walk.start(): 1}
    for level in range(walk.depth):
        gone = 0
        gaps = 0
        further = {}
        for starts, times in states.items():
            gone = gone + times * walk.shortest(level, starts)
            for number, gap in walk.met(level, starts):
                if gap is not None:
                    gaps = gaps + times
                else:
                    behind = walk.behind(level, starts, number)
                    further[behind] = further.get(behind, 0) + times
        levels.append((sum(list(states.values())), gone, gaps))
        states = further
    return levels


class Writer:
    """The lines of a paper, along a walk."""

    def __init__(self, walk, gaps, found):
        self.lines = Lines()
        self._walk = walk
        self._gaps = {gaps[k]: k for k in range(len(gaps))}
        self._answers = {found[k]: k for k in range(len(found))}
        # How many points are shown so far.
        self._points = 0
        # The lines behind those starts behind which there are no points: so their boxes hang on
        # nothing but the starts.
        self._told = {}

    def below(self, known, starts):
        """The place of a line whose box has the known numbers at the first attributes of the order
        and is whole at the others."""
        level = len(known)
        if level == self._walk.depth:
            return self._point(known)
        if starts in self._told:
            return self._told[starts]
        points = self._points
        attribute = self._walk.order[level]
        last = None
        number = 0
        for begins, gap in self._walk.met(level, starts):
            # What is joined already may reach further than what the walk has met.
            if number is not None and number <= begins:
                last = self.lines.joined(last, self._met(known, level, starts, begins, gap), attribute)
                number = self.lines.next_number(last, attribute)
        if self._points == points:
            self._told[starts] = last
        return last

    def _met(self, known, level, starts, number, gap):
        if gap is None:
            return self.below(known + (number,), self._walk.behind(level, starts, number))
        return self.lines.told("box", self._gaps[gap], gap[1])

    def _point(self, known):
        self._points += 1
        order = self._walk.order
        point = tuple([known[order.index(attribute)] for attribute in range(len(known))])
        return self.lines.told("point", self._answers[point], unit(point))


def paper_of(query, store, order):
    walk = _walk_of(query, store, order)
    gaps = _gaps_of(walk)
    found = answers(query, store)
    writer = Writer(walk, gaps, found)
    writer.below((), walk.start())
    return found, tuple(gaps), tuple(writer.lines.lines)


def _are_answers(query, store, points):
    for at in range(len(store)):
        rows = {row: True for row in store[at]}
        if not all(row in rows for row in parts_at(points, query[1][at])):
            return False
    return True


def _is_told_box(query, value):
    """Whether any value is a pair of the index of a table and a box."""
    return is_pair(value) and is_below(value[0], len(query[1])) and is_box_of(query[0], value[1])


def is_paper_of(query, store, value, without=None):
    """Whether any value is a paper for the query and the store, a rule of care being left out."""
    if not isinstance(value, tuple) or len(value) != 3:
        return False
    points, gaps, lines = value
    if not all(isinstance(item, tuple) for item in value):
        return False
    if not all(are_from(point, query[0], 0) for point in points) or not is_ascending(points):
        return False
    if without != "answer" and not _are_answers(query, store, points):
        return False
    if not all(_is_told_box(query, gap) for gap in gaps):
        return False
    if without != "gap" and not all(is_gap_of(query[1][at], store[at], box) for at, box in gaps):
        return False
    shown = last_shown([box for _, box in gaps], points, lines, without)
    return shown is not None and (without == "whole" or shown == whole(query[0]))


def lacks_none(query, store, value):
    check_store(query, store)
    return is_paper_of(query, store, value)


def skew(size):
    if not is_from(size, 1) or size > SIZE:
        raise BadNumber("not a number from 1 to 400")
    return (2, ((0, 1), (1,))), (tuple([(number, 0) for number in range(size)]), ((1,),))
