import unittest
from itertools import permutations

from coverjoin.engine import steps_by
from coverjoin.errors import BadAttribute, BadKnown
from coverjoin.orders import least_left, least_order, steps_at
from helper import EQUAL, LINES, QUERY, STORE, TRIANGLE, TRIANGLE_STORE, Dice, check_guards, number, plain_engine
from helper import rising, samples, some_store, subsets


class TestOrders(unittest.TestCase):

    def test_steps_at(self):
        for query, store in samples(60, 4, 4, 3, 7, 70):
            for order in permutations(range(query[0])):
                steps = plain_engine(query, store, order)[0]
                for level, attribute in enumerate(order):
                    known = tuple(sorted(order[:level]))
                    self.assertEqual(steps_at(query, store, known, attribute), steps[level])

    def test_least_order_is_the_least_of_all(self):
        for query, store in samples(120, 4, 5, 3, 8, 90):
            sums = {order: sum(steps_by(query, store, order)) for order in permutations(range(query[0]))}
            least = min(sums.values())
            first = min(order for order in sums if sums[order] == least)
            self.assertEqual(least_order(query, store), (first, least))
            self.assertEqual(least_left(query, store)[()], least)

    def test_paper(self):
        for query, store in samples(60, 4, 4, 3, 7, 110):
            self.paper(query, store)
        self.paper(LINES, some_store(Dice(4), LINES, 3, 9))

    def paper(self, query, store):
        left = least_left(query, store)
        every = tuple(range(query[0]))
        self.assertEqual(sorted(left), subsets(every))
        self.assertEqual(left[every], 0)
        for known in left:
            if known != every:
                sums = []
                for a in every:
                    if a not in known:
                        sums.append(steps_at(query, store, known, a) + left[tuple(sorted(known + (a,)))])
                self.assertEqual(left[known], min(sums))

    def test_left_behind_known_attributes(self):
        for query, store in samples(30, 3, 4, 3, 7, 130):
            left = least_left(query, store)
            for known in left:
                sums = []
                for order in permutations(range(query[0])):
                    if set(order[:len(known)]) == set(known):
                        sums.append(sum(plain_engine(query, store, order)[0][len(known):]))
                self.assertEqual(left[known], min(sums))

    def test_no_rows(self):
        store = (((0, 1),), (), ((1,),))
        self.assertEqual(least_order(EQUAL, store), ((0, 1), 0))
        self.assertEqual(least_left(EQUAL, store), {(): 0, (0,): 0, (1,): 0, (0, 1): 0})

    def test_many_answers(self):
        query, store = (3, ((0,), (1,), (2,))), (tuple((n,) for n in range(400)),) * 2 + (((0,),),)
        self.assertEqual(least_order(query, store), ((2, 0, 1), 1 + 400 + 400 ** 2))

    def test_what_is_told_may_be_changed(self):
        left = least_left(TRIANGLE, TRIANGLE_STORE)
        left[()] = 0
        left.clear()
        self.assertEqual(len(least_left(TRIANGLE, TRIANGLE_STORE)), 8)

    def test_wrong(self):
        good = (TRIANGLE, TRIANGLE_STORE)
        for function in (least_left, least_order):
            check_guards(self, function, good, [QUERY, STORE])
        known = (BadKnown, lambda query, store, known: rising(known, 0, 2))
        attribute = (BadAttribute, lambda query, store, known, a: number(a) and a in range(3) and a not in known)
        for told in ((), (1,), (0, 2)):
            check_guards(self, steps_at, good + (told, 1 if told != (1,) else 2), [QUERY, STORE, known, attribute])


if __name__ == "__main__":
    unittest.main()
