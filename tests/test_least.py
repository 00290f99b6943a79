import unittest
from itertools import combinations, permutations, product

from coverjoin.boxes import lies_in
from coverjoin.covering import covered
from coverjoin.errors import BadIndex, TooMany
from coverjoin.least import least_gaps, lie_apart, points_apart, widest_gaps
from coverjoin.papers import gaps_met, lacks_none, paper_of
from helper import EQUAL, LAST, ONE, PATH, QUERY, STORE, TRIANGLE, TRIANGLE_STORE, Dice, answer_plainly, check_guards
from helper import check_judge, gap_plainly, good_box, good_paper, holds_plainly, number, numbers, plain_answers, raised
from helper import samples, some_query, some_store

LINE = (0, None)
HAND = (2, ((0,), (1,)))
HAND_STORE = (((1,),), ((0,), (1,)))


def boxes_below(many, limit):
    """All boxes of stretches that end at numbers below a limit, or nowhere."""
    stretches = [(low, high) for low in range(limit + 1) for high in list(range(low, limit)) + [None]]
    return product(stretches, repeat=many)


def within(one, other):
    return all(low >= least and (most is None or (high is not None and high <= most))
               for (low, high), (least, most) in zip(one, other))


def by_ends(box):
    return [(low, LAST + 1 if high is None else high) for low, high in box]


def plain_widest(query, store, index, limit):
    """The widest gaps of a table with numbers below the limit, among all boxes of such numbers."""
    gaps = [box for box in boxes_below(query[0], limit) if gap_plainly(query, store, index, box)]
    return sorted([gap for gap in gaps if not any(gap != other and within(gap, other) for other in gaps)], key=by_ends)


def cells(query, store):
    """A point of each cell, by the numbers of the rows and those behind them."""
    starts = []
    for a in range(query[0]):
        numbers_there = {row[atom.index(a)] for atom, table in zip(query[1], store) if a in atom for row in table}
        starts.append(sorted({0} | numbers_there | {n + 1 for n in numbers_there if n < LAST}))
    return list(product(*starts))


def all_widest(query, store):
    return list(dict.fromkeys(box for k in range(len(store)) for box in widest_gaps(query, store, k)))


def plain_least(query, store):
    """The least number of gaps that hold all points but answers, by going through all lots of widest gaps."""
    points = [point for point in cells(query, store) if not answer_plainly(query, store, point)]
    held = [frozenset(point for point in points if holds_plainly(box, point)) for box in all_widest(query, store)]
    for many in range(len(held) + 1):
        for chosen in combinations(held, many):
            if len(frozenset().union(*chosen)) == len(points):
                return many
    return None


def held_together(query, store, one, other):
    """Whether a gap of a table holds both points."""
    for k, atom in enumerate(query[1]):
        spans = [(min(one[a], other[a]), max(one[a], other[a])) for a in atom]
        if not any(all(low <= n <= high for n, (low, high) in zip(row, spans)) for row in store[k]):
            return True
    return False


def plain_apart(query, store):
    """The greatest number of points that lie apart, by going through lots of cells, of those alone of which
    no widest gap has one but not the other just one."""
    gaps = all_widest(query, store)
    points = {tuple(holds_plainly(gap, point) for gap in gaps): point for point in cells(query, store)}
    points = [point for point in points.values() if not answer_plainly(query, store, point)]
    best = 0

    def go(k, chosen):
        nonlocal best
        best = max(best, len(chosen))
        for j in range(k, len(points)):
            if not any(held_together(query, store, points[j], other) for other in chosen):
                go(j + 1, chosen + [points[j]])
    go(0, [])
    return best


def good_apart(query, store, value):
    if type(value) is not tuple or not all(numbers(point, query[0], 0) for point in value):
        return False
    if any(answer_plainly(query, store, point) for point in value):
        return False
    return not any(held_together(query, store, one, other) for one, other in combinations(value, 2))


class TestWidest(unittest.TestCase):

    def test_by_hand(self):
        self.assertEqual(widest_gaps(HAND, HAND_STORE, 0), [((0, 0), LINE), ((2, None), LINE)])
        self.assertEqual(widest_gaps(HAND, HAND_STORE, 1), [(LINE, (2, None))])
        self.assertEqual(widest_gaps(ONE, ((),), 0), [(LINE,)])
        self.assertEqual(widest_gaps(ONE, (((0,), (LAST,)),), 0), [((1, LAST - 1),)])
        self.assertEqual(widest_gaps(ONE, (((0,), (LAST - 1,)),), 0), [((1, LAST - 2),), ((LAST, None),)])
        self.assertEqual(widest_gaps(ONE, (((LAST - 2,),),), 0), [((0, LAST - 3),), ((LAST - 1, None),)])
        self.assertEqual(widest_gaps((2, ((0, 1),)), (((0, 0),),), 0), [(LINE, (1, None)), ((1, None), LINE)])
        self.assertEqual(widest_gaps((2, ((0, 1),)), (((0, 0), (1, 1)),), 0),
                         [((0, 0), (1, None)), (LINE, (2, None)), ((1, None), (0, 0)), ((2, None), LINE)])

    def test_by_going_through_all_boxes(self):
        for query, store in samples(120, 2, 3, 4, 5, 841):
            for index in range(len(store)):
                self.assertEqual(widest_gaps(query, store, index), plain_widest(query, store, index, 4))
        dice = Dice(842)
        for _ in range(8):
            store = some_store(dice, (3, ((0, 1, 2),)), 2, 4)
            self.assertEqual(widest_gaps((3, ((0, 1, 2),)), store, 0), plain_widest((3, ((0, 1, 2),)), store, 0, 2))

    def test_each_gap_is_within_a_widest_one(self):
        dice = Dice(843)
        for query, store in samples(80, 4, 4, 4, 5, 844):
            order = tuple(range(query[0]))
            for index, gap in gaps_met(query, store, order):
                if isinstance(raised(widest_gaps, query, store, index), TooMany):
                    continue
                widest = widest_gaps(query, store, index)
                self.assertTrue(any(lies_in(gap, other) for other in widest))
            index = dice.below(len(store))
            if isinstance(raised(widest_gaps, query, store, index), TooMany):
                continue
            for gap in widest_gaps(query, store, index):
                self.assertTrue(good_box(query[0], gap) and gap_plainly(query, store, index, gap))
                for a in range(query[0]):
                    self.assertTrue(a in query[1][index] or gap[a] == LINE)

    def test_just_so_many_boxes_and_more(self):
        # n numbers above 0 leave n * (n + 1) / 2 + n + 1 stretches: 62 numbers 2,016, 61 of them 1,953.
        def line(n):
            return (tuple((2 * k + 1,) for k in range(n)),)
        self.assertEqual(len(widest_gaps(ONE, line(61), 0)), 62)
        error = raised(widest_gaps, ONE, line(62), 0)
        self.assertEqual((type(error), error.most), (TooMany, 2000))
        # One number makes 3 stretches, but 2 if it is 0, and 1 and the last one, ahead of it and all.
        self.assertEqual(len(widest_gaps(ONE, (((LAST,),),), 0)), 1)
        # 3 ** 6 * 2 are 1,458; 3 ** 7 are 2,187.
        for last, most in ((0, 1458), (1, 2187)):
            query, store = (7, (tuple(range(7)),)), (((1,) * 6 + (last,),),)
            if most <= 2000:
                self.assertEqual(len(widest_gaps(query, store, 0)), 13)
            else:
                self.assertIs(type(raised(widest_gaps, query, store, 0)), TooMany)

    def test_just_two_thousand(self):
        # 0 alone makes 2 stretches, three numbers apart and above 0 make 10.
        query = (4, ((0, 1, 2, 3),))
        widest = widest_gaps(query, (((0, 1, 1, 1), (0, 3, 3, 3), (0, 5, 5, 5)),), 0)
        self.assertTrue(all(gap_plainly(query, (((0, 1, 1, 1), (0, 3, 3, 3), (0, 5, 5, 5)),), 0, gap) for gap in widest))
        self.assertIs(type(raised(widest_gaps, query, (((1, 1, 1, 1), (1, 3, 3, 3), (1, 5, 5, 5)),), 0)), TooMany)

    def test_a_full_table(self):
        store = (tuple((n,) for n in range(300)),)
        self.assertEqual(widest_gaps(ONE, (tuple((n,) for n in range(40)),), 0), [((40, None),)])
        # 300 numbers one behind another: few stretches end ahead of them without beginning behind.
        self.assertIs(type(raised(widest_gaps, ONE, store, 0)), TooMany)


class TestLeast(unittest.TestCase):

    def check_one(self, query, store):
        """That what is told are gaps of a paper, and so many; the pair of their number and that of the points."""
        told = least_gaps(query, store)
        self.assertTrue(type(told) is tuple and len(told) == 2 and type(told[1]) is tuple)
        many, gaps = told
        self.assertEqual(many, len(gaps))
        for index, gap in gaps:
            self.assertTrue(good_box(query[0], gap) and gap_plainly(query, store, index, gap))
        found = plain_answers(query, store)
        lines = covered(query[0], [gap for _, gap in gaps], found)
        self.assertEqual(lines[0], "lines")
        self.assertTrue(good_paper(query, store, (found, gaps, lines[1])))
        self.assertIs(lacks_none(query, store, (found, gaps, lines[1])), True)
        apart = points_apart(query, store)
        self.assertEqual(list(apart), sorted(apart))
        self.assertTrue(good_apart(query, store, apart))
        self.assertIs(lie_apart(query, store, apart), True)
        self.assertLessEqual(len(apart), many)
        return many, len(apart)

    def test_by_hand(self):
        self.assertEqual(self.check_one(HAND, HAND_STORE), (3, 3))
        self.assertIs(lie_apart(HAND, HAND_STORE, ((0, 0), (2, 0), (1, 2))), True)
        self.assertEqual(len(gaps_met(HAND, HAND_STORE, (0, 1))), 3)
        self.assertEqual(self.check_one(ONE, ((),)), (1, 1))
        self.assertEqual(self.check_one(ONE, (((0,),),)), (1, 1))
        self.assertEqual(self.check_one(EQUAL, ((), (), ())), (1, 1))

    def test_against_a_search(self):
        done = 0
        for query, store in samples(300, 3, 3, 3, 4, 845):
            if len(all_widest(query, store)) <= 11 and len(cells(query, store)) <= 64:
                many, apart = self.check_one(query, store)
                self.assertEqual(many, plain_least(query, store))
                self.assertEqual(apart, plain_apart(query, store))
                done += 1
        self.assertGreater(done, 100)

    def test_least_papers_may_need_more_than_points_apart(self):
        cube = (3, ((0, 1, 2),))
        self.assertEqual(self.check_one(cube, (((0, 0, 2), (0, 2, 1), (1, 1, 0), (1, 2, 0), (1, 2, 2)),)), (9, 8))
        self.assertEqual(self.check_one(cube, (((0, 0, 3), (0, 1, 0), (1, 0, 1), (1, 2, 3), (2, 0, 1), (2, 2, 0), (3, 0, 2),
                                                (3, 4, 1)),)), (14, 13))
        self.assertEqual(self.check_one(TRIANGLE, (((0, 2), (2, 0), (2, 3), (3, 3)), ((0, 2), (2, 0)),
                                                   ((0, 0), (1, 0), (1, 2), (3, 1)))), (7, 6))

    def test_one_table_of_one_attribute(self):
        dice = Dice(847)
        for _ in range(40):
            store = some_store(dice, ONE, 30, 12)
            many, apart = self.check_one(ONE, store)
            self.assertEqual(many, apart)
            self.assertEqual(many, len(widest_gaps(ONE, store, 0)))

    def test_no_paper_has_fewer(self):
        for query, store in samples(60, 3, 3, 3, 5, 848):
            if len(all_widest(query, store)) <= 40 and len(cells(query, store)) <= 3000:
                many, apart = self.check_one(query, store)
                for order in permutations(range(query[0])):
                    self.assertLessEqual(many, len(paper_of(query, store, order)[1]))
                    self.assertLessEqual(apart, len(gaps_met(query, store, order)))

    def test_the_last_numbers(self):
        dice = Dice(849)
        ends = [0, 1, LAST - 2, LAST - 1, LAST]
        for query in (ONE, HAND, PATH, EQUAL):
            for _ in range(12):
                store = tuple(tuple(sorted({tuple(dice.one_of(ends) for _ in atom) for _ in range(dice.below(5))}))
                              for atom in query[1])
                if len(all_widest(query, store)) <= 40 and len(cells(query, store)) <= 3000:
                    self.check_one(query, store)

    def test_just_so_many_gaps_and_more(self):
        row = tuple((2 * k + 1,) for k in range(39))
        self.assertEqual(self.check_one(ONE, (row,)), (40, 40))
        more = (tuple((2 * k + 1,) for k in range(40)),)
        for function in (least_gaps, points_apart):
            error = raised(function, ONE, more)
            self.assertEqual((type(error), error.most), (TooMany, 40))
        # Equal gaps of two tables are counted once.
        query = (1, ((0,), (0,)))
        self.assertEqual(self.check_one(query, (row, row)), (40, 40))
        row, other = tuple((2 * k + 1,) for k in range(19)), tuple((2 * k + 1,) for k in range(20))
        self.assertEqual(self.check_one(HAND, (row, row)), (40, 40))
        self.assertIs(type(raised(least_gaps, HAND, (row, other))), TooMany)

    def test_just_so_many_cells_and_more(self):
        row = [tuple((2 * k,) for k in range(n)) for n in range(40)]
        # 2 * n starts for n numbers 0, 2, ..: 10 * 30 * 10 are 3,000 cells, with 25 gaps.
        query = (3, ((0,), (1,), (2,)))
        self.assertEqual(len(cells(query, (row[5], row[15], row[5]))), 3000)
        self.assertEqual(self.check_one(query, (row[5], row[15], row[5])), (25, 25))
        more = (row[5], row[14] + ((30,),), row[5])
        self.assertEqual(len(cells(query, more)), 3000)
        self.assertEqual(self.check_one(query, more), (25, 25))
        more = (row[5], tuple((2 * k + 1,) for k in range(15)), row[5])
        self.assertEqual(len(cells(query, more)), 3100)
        for function in (least_gaps, points_apart):
            error = raised(function, query, more)
            self.assertEqual((type(error), error.most), (TooMany, 3000))

    def test_the_first_that_is_too_many(self):
        long = tuple((2 * k,) for k in range(200))
        for store, most in (((long, long), 2000), ((((0,),), long), 2000), ((tuple((2 * k,) for k in range(30)),) * 2, 40)):
            for function in (least_gaps, points_apart):
                error = raised(function, HAND, store)
                self.assertEqual((type(error), error.most), (TooMany, most))

    def test_triangles(self):
        dice = Dice(850)
        done = 0
        while done < 12:
            store = some_store(dice, TRIANGLE, 4, 9)
            if len(all_widest(TRIANGLE, store)) <= 40:
                self.check_one(TRIANGLE, store)
                done += 1


class TestLieApart(unittest.TestCase):

    def test_by_hand(self):
        for value, plain in (((), True), (((0, 0),), True), (((1, 0),), False), (((1, 2),), True), (((0, 0), (0, 0)), False),
                             (((0, 0), (0, 5)), False), (((2, 0), (0, 0)), True), (((0, 0), (1, 2), (2, 0)), True),
                             (((1, 2), (1, LAST)), False), (((0, 0), (LAST, 0)), True), ([], False), ([(0, 0)], False),
                             (((0, 0), [2, 0]), False), (((0, LAST + 1),), False), (((0, True),), False), (((0,),), False)):
            self.assertIs(lie_apart(HAND, HAND_STORE, value), plain, value)

    def test_any_value(self):
        for query, store, sample in ((HAND, HAND_STORE, ((0, 0), (1, 2), (2, 0))), (ONE, (((3,),),), ((0,), (4,))),
                                     (TRIANGLE, TRIANGLE_STORE, points_apart(TRIANGLE, TRIANGLE_STORE))):
            check_judge(self, lambda value: lie_apart(query, store, value), lambda value: good_apart(query, store, value),
                        [sample])

    def test_by_a_fixed_rule(self):
        dice = Dice(851)
        told = {True: 0, False: 0}
        for query, store in samples(200, 3, 3, 3, 5, 852):
            for _ in range(8):
                value = tuple(tuple(dice.below(4) for _ in range(query[0])) for _ in range(dice.below(4)))
                plain = good_apart(query, store, value)
                told[plain] += 1
                self.assertIs(lie_apart(query, store, value), plain)
        self.assertGreater(min(told.values()), 100)

    def test_two_points_are_held_exactly_if_a_widest_gap_has_both(self):
        dice = Dice(853)
        for _ in range(60):
            query = some_query(dice, 3, 3)
            store = some_store(dice, query, 3, 4)
            gaps = all_widest(query, store)
            for _ in range(10):
                one, other = (tuple(dice.below(4) for _ in range(query[0])) for _ in range(2))
                plain = any(holds_plainly(gap, one) and holds_plainly(gap, other) for gap in gaps)
                self.assertEqual(held_together(query, store, one, other), plain)


class TestWrong(unittest.TestCase):

    def test_wrong(self):
        index = (BadIndex, lambda query, store, index: number(index) and index in range(len(store)))
        for function in (least_gaps, points_apart):
            check_guards(self, function, (TRIANGLE, TRIANGLE_STORE), [QUERY, STORE])
        check_guards(self, lie_apart, (HAND, HAND_STORE, ()), [QUERY, STORE])
        for k in range(3):
            check_guards(self, widest_gaps, (TRIANGLE, TRIANGLE_STORE, k), [QUERY, STORE, index])
        check_guards(self, widest_gaps, (ONE, ((),), 0), [QUERY, STORE, index])

    def test_too_many_comes_behind_all(self):
        long = (tuple((2 * k,) for k in range(300)),)
        self.assertIs(type(raised(widest_gaps, ONE, long, 0)), TooMany)
        for value in (1, -1, None, True, False, "0"):
            self.assertIs(type(raised(widest_gaps, ONE, long, value)), BadIndex)

    def test_what_is_returned_may_be_changed(self):
        told = widest_gaps(HAND, HAND_STORE, 0)
        told.clear()
        self.assertEqual(len(widest_gaps(HAND, HAND_STORE, 0)), 2)


if __name__ == "__main__":
    unittest.main()
