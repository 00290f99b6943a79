import unittest
from itertools import product

from coverjoin.errors import BadLists
from coverjoin.meets import apart, is_apart, is_paper, least_stretches, meet
from helper import LAST, Dice, check_guards, check_judge, every_kind, number, rising, subsets

END = 10 ** 18
EXAMPLE = ((0, 2, 4), (1, 2, 3))
STRETCHES = [(1, 0, 1), (0, 1, 2), (0, 3, 4), (1, 4, None)]


def good_lists(value):
    return type(value) is tuple and len(value) > 0 and all(rising(numbers, 0, LAST) for numbers in value)


LISTS = (BadLists, good_lists)


def is_end(value):
    return type(value) is int and 0 <= value <= END


def good_paper(lists, value):
    """Whether any value is a paper, by looking at each number at which something may change."""
    if type(value) not in (list, tuple):
        return False
    held = {0, END + 5} | {n + d for numbers in lists for n in numbers for d in (0, 1)}
    for stretch in value:
        if type(stretch) is not tuple or len(stretch) != 3:
            return False
        at, low, high = stretch
        if not number(at) or at not in range(len(lists)) or not is_end(low):
            return False
        if high is not None and (not is_end(high) or high <= low):
            return False
        if any(low <= n and (high is None or n < high) for n in lists[at]):
            return False
        held |= {low} | ({high} if high is not None else set())
    return all(any(low <= n and (high is None or n < high) for _, low, high in value) or
               all(n in numbers for numbers in lists) for n in held)


def good_apart(lists, value):
    if type(value) is not tuple or not all(is_end(n) for n in value) or list(value) != sorted(set(value)):
        return False
    if any(all(n in numbers for numbers in lists) for n in value):
        return False
    return all(any(one <= n <= other for n in numbers) for one, other in zip(value, value[1:]) for numbers in lists)


def plain_meet(lists):
    """Leapfrogging to the letter."""
    met, jumps, bound, turn, trail = [], 0, 0, 0, []
    while True:
        jumps += 1
        ahead = [n for n in lists[turn] if n >= bound]
        if not ahead:
            return tuple(met), jumps
        bound = min(ahead)
        trail.append(bound)
        turn = (turn + 1) % len(lists)
        if len(trail) >= len(lists) and set(trail[-len(lists):]) == {bound}:
            met.append(bound)
            bound += 1
            trail = []


def some_lists():
    """All pairs, and many triples and fours, of lists of small numbers."""
    small = subsets(range(4))
    yield from product(small, repeat=1)
    yield from product(small, repeat=2)
    yield from list(product(small, repeat=3))[::5]
    dice = Dice(2)
    for _ in range(300):
        yield tuple(tuple(n for n in range(9) if dice.below(3)) for _ in range(1 + dice.below(4)))


def fewest(lists):
    """The fewest stretches of a paper, by trying ever more of the longest ones."""
    longest = []
    for at, numbers in enumerate(lists):
        ends = [-1] + list(numbers) + [None]
        for one, other in zip(ends, ends[1:]):
            if other is None or other > one + 1:
                longest.append((one + 1, other))
    last = max([n for numbers in lists for n in numbers], default=0) + 1
    needed = frozenset(n for n in range(last + 1) if not all(n in numbers for numbers in lists))
    reached, many = {frozenset()}, 0
    while needed not in reached:
        many += 1
        reached = {part | {n for n in needed if n >= low and (high is None or n < high)}
                   for part in reached for low, high in longest}
    return many


class TestMeet(unittest.TestCase):

    def test_example_by_hand(self):
        self.assertEqual(meet(EXAMPLE), ((2,), 6))

    def test_to_the_letter(self):
        for lists in some_lists():
            self.assertEqual(meet(lists), plain_meet(lists))
            self.assertEqual(meet(lists)[0], tuple(n for n in lists[0] if all(n in numbers for numbers in lists)))

    def test_edges(self):
        self.assertEqual(meet(((),)), ((), 1))
        self.assertEqual(meet(((LAST,),)), ((LAST,), 2))
        self.assertEqual(meet(((LAST,), (LAST,))), ((LAST,), 3))
        self.assertEqual(meet(((), (1,))), ((), 1))
        self.assertEqual(meet(((1,), ())), ((), 2))
        self.assertEqual(meet(((0, 1), (0, 1))), ((0, 1), 5))

    def test_jumps_are_bounded(self):
        for lists in some_lists():
            met, jumps = meet(lists)
            self.assertLessEqual(jumps, len(lists) * (len(least_stretches(lists)) + len(met)))
            self.assertLessEqual(jumps, len(lists) * (1 + min(len(numbers) for numbers in lists)))

    def test_long_lists(self):
        twos, threes = tuple(range(0, 9000, 2)), tuple(range(0, 9000, 3))
        self.assertEqual(meet((twos, threes))[0], tuple(range(0, 9000, 6)))
        self.assertEqual(meet((twos, threes)), plain_meet_of_long((twos, threes)))
        self.assertEqual(meet((tuple(range(2000)), (1999,))), ((1999,), 4))

    def test_wrong(self):
        check_guards(self, meet, (EXAMPLE,), [LISTS])
        for value in ((), ((1, 0),), ((0, 0),), ((True,),), ((-1,),), ((LAST + 1,),), [(0,)], ([0],), (0,)):
            with self.assertRaises(BadLists):
                meet(value)


def plain_meet_of_long(lists):
    """Leapfrogging with places that only go on."""
    places, met, jumps, bound, alike = [0] * len(lists), [], 0, 0, 0
    while True:
        turn = jumps % len(lists)
        jumps += 1
        while places[turn] < len(lists[turn]) and lists[turn][places[turn]] < bound:
            places[turn] += 1
        if places[turn] == len(lists[turn]):
            return tuple(met), jumps
        found = lists[turn][places[turn]]
        alike = alike + 1 if found == bound and alike else 1
        bound = found
        if alike == len(lists):
            met.append(found)
            bound, alike = found + 1, 0


class TestLeastStretches(unittest.TestCase):

    def judged(self, lists):
        stretches, points = least_stretches(lists), apart(lists)
        self.assertIs(type(stretches), list)
        self.assertTrue(good_paper(lists, stretches))
        self.assertIs(is_paper(lists, stretches), True)
        self.assertTrue(good_apart(lists, points))
        self.assertIs(is_apart(lists, points), True)
        self.assertEqual(len(points), len(stretches))
        return len(points)

    def test_example_by_hand(self):
        self.assertEqual(self.judged(EXAMPLE), 4)
        self.assertIs(is_paper(EXAMPLE, STRETCHES), True)
        self.assertIs(is_apart(EXAMPLE, (0, 1, 3, 4)), True)

    def test_fewest_of_all_papers(self):
        for lists in some_lists():
            self.assertEqual(self.judged(lists), fewest(lists))

    def test_edges(self):
        self.assertEqual(least_stretches(((),)), [(0, 0, None)])
        self.assertEqual(least_stretches(((LAST,),)), [(0, 0, LAST), (0, END, None)])
        self.assertEqual(apart(((LAST,),)), (0, END))
        self.assertEqual(self.judged(((0,), (0,))), 1)
        self.assertEqual(self.judged(((0, LAST), (LAST,))), 2)

    def test_long_lists(self):
        dice = Dice(5)
        self.judged((tuple(range(0, 6000, 2)), tuple(range(1, 6000, 2))))
        lists = tuple(tuple(n for n in range(3000) if dice.below(8)) for _ in range(4))
        many = self.judged(lists)
        met, jumps = meet(lists)
        self.assertLessEqual(jumps, 4 * (many + len(met)))

    def test_new_lists(self):
        one = least_stretches(EXAMPLE)
        one.append(None)
        self.assertEqual(least_stretches(EXAMPLE), one[:-1])

    def test_wrong(self):
        for function in (least_stretches, apart):
            check_guards(self, function, (EXAMPLE,), [LISTS])


class TestIsPaper(unittest.TestCase):

    def test_any_value(self):
        for lists, paper in ((EXAMPLE, STRETCHES), (EXAMPLE, tuple(STRETCHES)), (((), (3,)), [(0, 0, None)]),
                             (((LAST,),), [(0, END, None), (0, 0, LAST)]), (((5, 6), (6,)), [(1, 0, 6), (0, 7, None)])):
            self.assertIs(is_paper(lists, paper), True)
            check_judge(self, lambda value: is_paper(lists, value), lambda value: good_paper(lists, value), [paper])

    def test_edges(self):
        lists = ((0, 5), (5,))
        for value in ([(1, 0, 5), (1, 6, None)], [(1, 0, 5), (0, 6, END), (0, END, None)], [(1, 0, 3), (1, 2, 5), (0, 6, None)],
                      [(0, 6, None), (1, 0, 5)], [(0, 6, None), (1, 0, 5), (1, 0, 5)]):
            self.assertIs(is_paper(lists, value), True, value)
        for value in ([(1, 0, 6), (1, 6, None)], [(1, 0, 5), (0, 6, END)], [(1, 0, 4), (0, 6, None)], [(1, 0, 5), (0, 7, None)],
                      [(0, 0, 5), (0, 6, None)], [(1, 0, 5), (0, 5, None)], [], [(1, 1, 5), (0, 6, None)],
                      [(1, 0, 5), (0, 6, END + 1), (0, END, None)], [(1, 0, 5), (0, 6, None), (0, END + 1, None)],
                      [(1, 0, 5), (0, 6, None), (0, END, END)], [(True, 0, 5), (0, 6, None)], [(1, False, 5), (0, 6, None)]):
            self.assertIs(is_paper(lists, value), False, value)

    def test_made_papers(self):
        dice = Dice(7)
        lists = ((1, 4), (0, 4, 6), (2, 4))
        stretches = [(at, low, high) for at in range(3) for low in range(8) for high in list(range(low + 1, 9)) + [None]
                     if not any(low <= n and (high is None or n < high) for n in lists[at])]
        for _ in range(2000):
            value = [dice.one_of(stretches) for _ in range(4 + dice.below(5))]
            self.assertIs(is_paper(lists, value), good_paper(lists, value), value)

    def test_not_changed(self):
        value = STRETCHES[::-1]
        self.assertIs(is_paper(EXAMPLE, value), True)
        self.assertEqual(value, STRETCHES[::-1])

    def test_wrong(self):
        for value in (STRETCHES, None):
            check_guards(self, is_paper, (EXAMPLE, value), [LISTS])


class TestIsApart(unittest.TestCase):

    def test_all_small_ones(self):
        for lists in (EXAMPLE, ((1, 3), (3,), (0, 3, 4)), ((),), ((0, 1, 2),)):
            for value in subsets(range(7)):
                self.assertIs(is_apart(lists, value), good_apart(lists, value), value)

    def test_no_stretch_holds_two(self):
        for lists in list(some_lists())[::7]:
            points = apart(lists)
            for at, numbers in enumerate(lists):
                ends = [-1] + list(numbers) + [END + 1]
                for one, other in zip(ends, ends[1:]):
                    self.assertLessEqual(sum(one < point < other for point in points), 1)

    def test_any_value(self):
        for lists, points in ((EXAMPLE, (0, 1, 3, 4)), (((LAST,),), (0, END)), (((LAST,),), (LAST - 1, END))):
            self.assertIs(is_apart(lists, points), True)
            check_judge(self, lambda value: is_apart(lists, value), lambda value: good_apart(lists, value), [points])
        self.assertIs(is_apart(((LAST,),), (0, END + 1)), False)
        self.assertIs(is_apart(((1,),), (0, True)), False)
        self.assertIs(is_apart(((1,),), [0, 2]), False)
        for value in every_kind():
            self.assertIs(is_apart(EXAMPLE, value), good_apart(EXAMPLE, value), value)

    def test_wrong(self):
        for value in ((0, 1, 3, 4), None):
            check_guards(self, is_apart, (EXAMPLE, value), [LISTS])


if __name__ == "__main__":
    unittest.main()
