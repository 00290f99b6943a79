import unittest
from itertools import permutations

from coverjoin.answers import answers
from coverjoin.engine import answers_by, asks_by, beginnings, cut, jumps_by, steps_by
from coverjoin.errors import BadLevel
from coverjoin.tables import renamed, restricted, sizes
from helper import EQUAL, LAST, ONE, ORDER, QUERY, STORE, TRIANGLE, TRIANGLE_STORE, WIDE, Dice, an_order, candidates
from helper import check_guards, good_query, good_store, number, part, plain_answers, plain_beginnings, plain_engine
from helper import powers_of, samples, turned

LEVEL = (BadLevel, lambda query, store, order, level: number(level) and 0 <= level <= query[0])
LEVEL_FROM_1 = (BadLevel, lambda query, store, order, level: number(level) and 1 <= level <= query[0])
THREE = (3, ((0,), (1,), (2,)))
FULL = (tuple((n,) for n in range(400)),) * 3


def stores():
    dice = Dice(11)
    for query, store in samples(150, 4, 4, 3, 7, 30):
        yield query, store, an_order(dice, query)


class TestEngine(unittest.TestCase):

    def test_triangle(self):
        self.assertEqual(steps_by(TRIANGLE, TRIANGLE_STORE, (0, 1, 2)), (2, 3, 3))
        self.assertEqual(asks_by(TRIANGLE, TRIANGLE_STORE, (0, 1, 2)), (2, 3, 3))
        self.assertEqual(beginnings(TRIANGLE, TRIANGLE_STORE, (0, 1, 2), 1), ((0,), (1,)))
        self.assertEqual(beginnings(TRIANGLE, TRIANGLE_STORE, (0, 1, 2), 2), ((0, 0), (0, 1), (1, 0)))
        self.assertEqual(answers_by(TRIANGLE, TRIANGLE_STORE, (1, 0, 2)), ((0, 0, 0), (1, 0, 0), (0, 1, 0)))

    def test_steps_asks_and_jumps(self):
        for query, store, order in stores():
            with self.subTest(query=query, store=store, order=order):
                steps, asks, jumps = plain_engine(query, store, order)
                self.assertEqual(steps_by(query, store, order), steps)
                self.assertEqual(asks_by(query, store, order), asks)
                self.assertEqual(jumps_by(query, store, order), jumps)

    def test_the_leader_is_the_first_of_equally_short_lists(self):
        # The second atom leads, and asks the first one, and the third one only for 2.
        query, store = (1, ((0,), (0,), (0,))), (((1,), (2,), (3,)), ((2,), (4,)), ((1,), (4,)))
        self.assertEqual((steps_by(query, store, (0,)), asks_by(query, store, (0,))), ((2,), (3,)))
        other = (((2,), (3,)), ((2,), (4,)), ((2,), (3,), (4,)))
        self.assertEqual((steps_by(query, other, (0,)), asks_by(query, other, (0,))), ((2,), (3,)))

    def test_beginnings(self):
        for query, store, order in stores():
            for level in range(query[0] + 1):
                self.assertEqual(beginnings(query, store, order, level), plain_beginnings(query, store, order, level))

    def test_answers_by(self):
        for query, store, order in stores():
            found = sorted(plain_answers(query, store), key=lambda answer: turned(answer, order))
            self.assertEqual(answers_by(query, store, order), tuple(found))

    def test_a_table_without_rows(self):
        store = (((0, 1),), (), ((1,),))
        for order in permutations(range(2)):
            for level in range(3):
                self.assertEqual(beginnings(EQUAL, store, order, level), ())
            for counted in (steps_by, asks_by, jumps_by):
                self.assertEqual(counted(EQUAL, store, order), (0, 0))
            self.assertEqual(answers_by(EQUAL, store, order), ())
            self.assertEqual(cut(EQUAL, store, order, 1)[1], ((), (), ())[:2 + (order[0] == 1)])

    def test_no_answer_but_steps(self):
        store = (((0, 0),), ((0, 1),), ((0,),))
        self.assertEqual(steps_by(EQUAL, store, (0, 1)), (1, 1))
        self.assertEqual(beginnings(EQUAL, store, (0, 1), 1), ((0,),))
        self.assertEqual(beginnings(EQUAL, store, (0, 1), 2), ())

    def test_far_more_answers_than_could_be_told(self):
        self.assertEqual(steps_by(THREE, FULL, (2, 0, 1)), (400, 400 ** 2, 400 ** 3))
        self.assertEqual(asks_by(THREE, FULL, (2, 0, 1)), (0, 0, 0))
        self.assertEqual(jumps_by(THREE, FULL, (2, 0, 1)), (401, 400 * 401, 400 ** 2 * 401))
        pairs = tuple((n, LAST - n) for n in range(400))
        self.assertEqual(steps_by((6, ((0, 1), (2, 3), (4, 5))), (pairs,) * 3, (0, 2, 4, 5, 1, 3)),
                         (400, 400 ** 2, 400 ** 3, 400 ** 3, 400 ** 3, 400 ** 3))

    def test_one_atom(self):
        self.assertEqual(steps_by(ONE, (((3,), (LAST,)),), (0,)), (2,))
        self.assertEqual(asks_by(ONE, (((3,), (LAST,)),), (0,)), (0,))
        self.assertEqual(jumps_by(ONE, (((3,), (LAST,)),), (0,)), (3,))
        self.assertEqual(answers_by(ONE, (((3,), (LAST,)),), (0,)), ((3,), (LAST,)))

    def test_eight_attributes_and_atoms(self):
        rows = tuple(sorted(tuple((n >> k) & 1 for k in range(7)) for n in range(128)))
        store = (rows,) * 8
        self.assertEqual(steps_by(WIDE, store, tuple(range(8))), tuple(2 ** (k + 1) for k in range(8)))
        self.assertEqual(len(answers_by(WIDE, store, tuple(range(7, -1, -1)))), 256)


class TestCut(unittest.TestCase):

    def test_reading(self):
        query, store = (3, ((0, 2), (1,), (1, 2))), (((0, 5), (1, 5), (1, 6)), ((7,), (8,)), ((7, 5), (7, 6)))
        self.assertEqual(cut(query, store, (2, 0, 1), 1), ((1, ((0,), (0,))), (((5,), (6,)), ((5,), (6,)))))
        self.assertEqual(cut(query, store, (2, 0, 1), 2),
                         ((2, ((0, 1), (0,))), (((5, 0), (5, 1), (6, 1)), ((5,), (6,)))))
        self.assertEqual(cut(query, store, (2, 0, 1), 3)[0], (3, ((0, 1), (2,), (0, 2))))

    def test_its_answers_are_the_beginnings(self):
        for query, store, order in stores():
            for level in range(1, query[0] + 1):
                cut_query, cut_store = cut(query, store, order, level)
                self.assertTrue(good_query(cut_query) and good_store(cut_query, cut_store))
                having = [atom for atom in query[1] if set(atom) & set(order[:level])]
                self.assertEqual([{order[a] for a in atom} for atom in cut_query[1]],
                                 [set(atom) & set(order[:level]) for atom in having])
                self.assertEqual(plain_answers(cut_query, cut_store), plain_beginnings(query, store, order, level))

    def test_the_whole_is_a_renaming(self):
        for query, store, order in stores():
            if all(store):
                places = tuple(order.index(a) for a in range(query[0]))
                self.assertEqual(cut(query, store, order, query[0]), renamed(query, store, places))


class TestBound(unittest.TestCase):

    def test_steps_are_within_the_bound_of_each_cover(self):
        for query, store, order in stores():
            steps = steps_by(query, store, order)
            whole = [cover for cover in candidates(query, 2) if self.covers(query, cover)]
            for level in range(query[0]):
                cut_query, cut_store = cut(query, store, order, level + 1)
                for cover in candidates(cut_query, 2):
                    if self.covers(cut_query, cover):
                        self.assertLessEqual(steps[level] ** cover[1], powers_of(sizes(cut_query, cut_store), cover[0]))
                for cover in whole:
                    self.assertLessEqual(steps[level] ** cover[1], powers_of(sizes(query, store), cover[0]))

    def covers(self, query, cover):
        return all(sum(n for n, atom in zip(cover[0], query[1]) if a in atom) >= cover[1] for a in range(query[0]))

    def test_as_many_steps_as_further_beginnings(self):
        for query, store, order in stores():
            steps, jumps = steps_by(query, store, order), jumps_by(query, store, order)
            for level in range(query[0]):
                self.assertGreaterEqual(steps[level], len(beginnings(query, store, order, level + 1)))
                having = len([atom for atom in query[1] if order[level] in atom])
                here = len(beginnings(query, store, order, level))
                self.assertLessEqual(jumps[level], having * (steps[level] + here))

    def test_more_rows_never_make_fewer_steps(self):
        for query, store, order in stores():
            dice = Dice(len(store[0]) + query[0])
            more = tuple(tuple(sorted(set(table) | {tuple(dice.below(3) for _ in atom)}))
                         for atom, table in zip(query[1], store))
            for less, least in zip(steps_by(query, store, order), steps_by(query, more, order)):
                self.assertLessEqual(less, least)

    def test_one_more_atom_never_makes_more_steps(self):
        for query, store, order in stores():
            dice = Dice(len(store[0]) + query[0])
            atom = tuple(range(dice.below(query[0]), query[0]))
            rows = tuple(sorted({tuple(dice.below(3) for _ in atom) for _ in range(dice.below(6))}))
            more = steps_by((query[0], query[1] + (atom,)), store + (rows,), order)
            for less, least in zip(more, steps_by(query, store, order)):
                self.assertLessEqual(less, least)

    def test_steps_behind_the_first_level_are_those_of_restricted_stores(self):
        for query, store, order in stores():
            sums = [0] * query[0]
            for (n,) in beginnings(query, store, order, 1):
                for level, steps in enumerate(steps_by(query, restricted(query, store, order[0], n), order)):
                    sums[level] += steps
            self.assertEqual(tuple(sums[1:]), steps_by(query, store, order)[1:])

    def test_renamed(self):
        for query, store, order in stores():
            places = an_order(Dice(query[0] + len(store)), query)
            other, there = renamed(query, store, places)
            named = part(places, order)
            self.assertEqual(steps_by(other, there, named), steps_by(query, store, order))
            self.assertEqual(asks_by(other, there, named), asks_by(query, store, order))


class TestWrong(unittest.TestCase):

    def test_wrong(self):
        good = (TRIANGLE, TRIANGLE_STORE, (2, 0, 1))
        for function in (answers_by, steps_by, asks_by, jumps_by):
            check_guards(self, function, good, [QUERY, STORE, ORDER])
        check_guards(self, beginnings, good + (1,), [QUERY, STORE, ORDER, LEVEL])
        check_guards(self, cut, good + (1,), [QUERY, STORE, ORDER, LEVEL_FROM_1])
        self.assertEqual(beginnings(TRIANGLE, TRIANGLE_STORE, order=(2, 0, 1), level=0), ((),))

    def test_answers_are_those_of_answers(self):
        for query, store, order in stores():
            self.assertEqual(tuple(sorted(answers_by(query, store, order))), answers(query, store))


if __name__ == "__main__":
    unittest.main()
