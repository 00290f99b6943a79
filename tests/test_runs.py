import unittest

from coverjoin.engine import answers_by, asks_by, steps_by
from coverjoin.errors import BadLevel, BadMost, BadPoint, NoAnswer
from coverjoin.runs import Run, first_by, starts_by
from helper import EQUAL, LAST, ONE, ORDER, QUERY, STORE, TRIANGLE, TRIANGLE_STORE, Dice, an_order, check_guards
from helper import every_kind, number, numbers, plain_asks, plain_leader, plain_lists, samples, turned, wrong_values

THREE = (3, ((0,), (1,), (2,)))
FULL = (tuple((n,) for n in range(400)),) * 3


class PlainRun:
    """The engine with a floor, as point 43 tells it, by a generator that reads the floor as it goes."""

    def __init__(self, query, store, order):
        self.query, self.store, self.order = query, store, order
        self.floor = ()
        self.made = [[0] * query[0], [0] * query[0]]
        self.told = None
        self.walk = self.behind(()) if all(store) else iter(())

    def behind(self, beginning):
        level = len(beginning)
        if level == self.query[0]:
            yield beginning
            return
        lists = plain_lists(self.query, self.store, self.order, beginning)
        leader = plain_leader(lists)
        for n in lists[leader]:
            if beginning + (n,) < self.floor[:level + 1]:
                continue
            self.made[0][level] += 1
            asks, held = plain_asks(lists, leader, n)
            self.made[1][level] += asks
            if held:
                yield from self.behind(beginning + (n,))

    def next_answer(self):
        self.told = next(self.walk, None)
        return None if self.told is None else tuple(self.told[self.order.index(a)] for a in range(self.query[0]))

    def seek(self, point):
        self.floor = max(self.floor, turned(point, self.order))

    def leave(self, level):
        self.floor = max(self.floor, self.told[:level - 1] + (self.told[level - 1] + 1,))


def stores(many=120):
    dice = Dice(17)
    for query, store in samples(many, 4, 4, 4, 10, 50):
        yield query, store, an_order(dice, query)


class TestRun(unittest.TestCase):

    def test_any_calls(self):
        dice = Dice(8)
        for query, store, order in stores(250):
            run, plain = Run(query, store, order), PlainRun(query, store, order)
            most = steps_by(query, store, order)
            for _ in range(25):
                self.one_call(dice, run, plain)
                self.assertEqual(run.steps(), tuple(plain.made[0]))
                self.assertEqual(run.asks(), tuple(plain.made[1]))
                self.assertTrue(all(made <= all_made for made, all_made in zip(run.steps(), most)))

    def one_call(self, dice, run, plain):
        call = dice.below(6)
        if call < 3:
            self.assertEqual(run.next_answer(), plain.next_answer())
        elif call == 3:
            point = tuple(dice.below(4) for _ in range(plain.query[0]))
            self.assertIsNone(run.seek(point))
            plain.seek(point)
        else:
            level = 1 + dice.below(plain.query[0])
            if plain.told is None:
                with self.assertRaises(NoAnswer):
                    run.leave(level)
            else:
                self.assertIsNone(run.leave(level))
                plain.leave(level)

    def test_alone_it_tells_all_answers_with_all_steps(self):
        for query, store, order in stores():
            run = Run(query, store, order)
            self.assertEqual((run.steps(), run.asks()), ((0,) * query[0], (0,) * query[0]))
            for answer in answers_by(query, store, order):
                self.assertEqual(run.next_answer(), answer)
            for _ in range(3):
                self.assertIsNone(run.next_answer())
                self.assertEqual(run.steps(), steps_by(query, store, order))
                self.assertEqual(run.asks(), asks_by(query, store, order))

    def test_seek(self):
        for query, store, order in stores(60):
            found = answers_by(query, store, order)
            point = tuple((query[0] + k) % 4 for k in range(query[0]))
            run = Run(query, store, order)
            first = run.next_answer()
            run.seek(point)
            left = [answer for answer in found[1:] if turned(answer, order) >= turned(point, order)]
            told = []
            while (answer := run.next_answer()) is not None:
                told.append(answer)
            self.assertEqual(told, left)
            self.assertEqual(first, found[0] if found else None)

    def test_a_floor_passes_numbers_over(self):
        run = Run(THREE, FULL, (2, 0, 1))
        self.assertEqual(run.next_answer(), (0, 0, 0))
        run.seek((5, 399, 7))
        self.assertEqual((run.next_answer(), run.steps()), ((5, 399, 7), (2, 2, 2)))
        run.seek((399, 399, 6))
        self.assertEqual(run.next_answer(), (6, 0, 7))
        run.leave(2)
        run.leave(3)
        self.assertEqual((run.next_answer(), run.steps()), ((7, 0, 7), (2, 4, 4)))
        run.leave(1)
        self.assertEqual((run.next_answer(), run.steps()), ((0, 0, 8), (3, 5, 5)))
        run.seek((LAST, LAST, LAST))
        self.assertEqual((run.next_answer(), run.next_answer(), run.steps()), (None, None, (3, 5, 5)))

    def test_behind_the_last_number(self):
        run = Run(ONE, (((0,), (LAST,)),), (0,))
        self.assertEqual((run.next_answer(), run.next_answer()), ((0,), (LAST,)))
        run.leave(1)
        self.assertIsNone(run.next_answer())
        with self.assertRaises(NoAnswer):
            run.leave(1)
        run.seek((LAST,))
        self.assertIsNone(run.next_answer())

    def test_leave(self):
        run = Run(TRIANGLE, TRIANGLE_STORE, (0, 1, 2))
        for level in (1, 2, 3):
            with self.assertRaises(NoAnswer):
                run.leave(level)
        self.assertEqual(run.next_answer(), (0, 0, 0))
        run.leave(1)
        self.assertEqual(run.next_answer(), (1, 0, 0))

    def test_no_rows(self):
        run = Run(EQUAL, (((0, 1),), (), ((1,),)), (1, 0))
        self.assertEqual((run.next_answer(), run.steps(), run.asks()), (None, (0, 0), (0, 0)))

    def test_what_it_tells_may_be_changed(self):
        run, other = Run(THREE, FULL, (0, 1, 2)), Run(THREE, FULL, (0, 1, 2))
        run.next_answer()
        before = run.steps()
        run.next_answer()
        self.assertEqual((before, other.steps()), ((1, 1, 1), (0, 0, 0)))
        self.assertFalse(run == other)
        for value in every_kind():
            self.assertFalse(run == value)


class TestFirstAndStarts(unittest.TestCase):

    def test_first_by(self):
        for query, store, order in stores(60):
            found = answers_by(query, store, order)
            for most in range(len(found) + 3):
                self.assertEqual(first_by(query, store, order, most), found[:most])
            self.assertEqual(first_by(query, store, order, LAST), found)
        self.assertEqual(first_by(THREE, FULL, (0, 2, 1), 3), ((0, 0, 0), (0, 1, 0), (0, 2, 0)))

    def test_starts_by(self):
        for query, store, order in stores(60):
            found = answers_by(query, store, order)
            for level in range(1, query[0] + 1):
                starts = tuple(sorted({turned(answer, order)[:level] for answer in found}))
                self.assertEqual(starts_by(query, store, order, level), starts)
        self.assertEqual(starts_by(THREE, FULL, (0, 2, 1), 1), tuple((n,) for n in range(400)))


class TestWrong(unittest.TestCase):

    def test_wrong(self):
        good = (TRIANGLE, TRIANGLE_STORE, (2, 0, 1))
        check_guards(self, Run, good, [QUERY, STORE, ORDER])
        most = (BadMost, lambda query, store, order, most: number(most) and most >= 0)
        check_guards(self, first_by, good + (2,), [QUERY, STORE, ORDER, most])
        level = (BadLevel, lambda query, store, order, level: number(level) and 1 <= level <= 3)
        check_guards(self, starts_by, good + (2,), [QUERY, STORE, ORDER, level])
        # Where there is no answer, the level is judged as well.
        check_guards(self, starts_by, (TRIANGLE, ((),) * 3, (2, 0, 1), 1), [QUERY, STORE, ORDER, level])

    def test_wrong_points_and_levels(self):
        run = Run(TRIANGLE, TRIANGLE_STORE, (2, 0, 1))
        for asked in (False, True):
            if asked:
                run.next_answer()
            for point in wrong_values((0, 0, 0)):
                if not numbers(point, 3, 0):
                    with self.assertRaises(BadPoint):
                        run.seek(point)
            for level in wrong_values(2):
                if not number(level) or not 1 <= level <= 3:
                    with self.assertRaises(BadLevel):
                        run.leave(level)
        self.assertEqual((run.next_answer(), run.next_answer(), run.next_answer()), ((0, 1, 0), (1, 0, 0), None))


if __name__ == "__main__":
    unittest.main()
