import unittest
from itertools import permutations

from coverjoin.checks import is_query, is_store
from coverjoin.errors import BadAttribute, BadNumber, BadPlaces
from coverjoin.tables import is_order, renamed, restricted, sizes, values_at
from helper import EQUAL, LAST, ONE, PATH, QUERY, RING, STORE, TRIANGLE, TRIANGLE_STORE, Dice, check_guards, check_judge
from helper import good_order, number, plain_answers, some_queries, some_store

PLACES = (BadPlaces, lambda query, store, places: good_order(query, places))
ATTRIBUTE = (BadAttribute, lambda query, store, value: number(value) and value in range(query[0]))
NUMBER = (BadNumber, lambda query, store, attribute, value: number(value) and value >= 0)


def samples(many=120, seed=3):
    dice = Dice(seed)
    for query in some_queries(many, 4, 4, seed):
        yield query, some_store(dice, query, 3, 7), dice


class TestSizes(unittest.TestCase):

    def test_sizes(self):
        self.assertEqual(sizes(TRIANGLE, TRIANGLE_STORE), (3, 3, 2))
        self.assertEqual(sizes(PATH, ((), ((0, 0),))), (0, 1))
        self.assertEqual(sizes(ONE, (tuple((k,) for k in range(400)),)), (400,))

    def test_wrong(self):
        check_guards(self, sizes, (TRIANGLE, TRIANGLE_STORE), [QUERY, STORE])


class TestIsOrder(unittest.TestCase):

    def test_orders(self):
        for query in (ONE, PATH, RING):
            for order in permutations(range(query[0])):
                self.assertIs(is_order(query, order), True)
            check_judge(self, lambda value: is_order(query, value), lambda value: good_order(query, value),
                        [tuple(range(query[0]))])
        self.assertIs(is_order((2, ((0, 1),)), (False, True)), False)

    def test_wrong(self):
        check_guards(self, is_order, (TRIANGLE, (0, 1, 2)), [QUERY])


class TestRenamed(unittest.TestCase):

    def test_example_by_hand(self):
        query, store = renamed(TRIANGLE, TRIANGLE_STORE, (2, 0, 1))
        self.assertEqual(query, (3, ((0, 2), (1, 2), (0, 1))))
        self.assertEqual(store, (((0, 0), (0, 1), (1, 0)), ((0, 0), (0, 1), (1, 0)), ((0, 0), (1, 0))))

    def test_rows_turn_with_their_attributes(self):
        self.assertEqual(renamed((2, ((0, 1),)), (((0, 5), (1, 4)),), (1, 0)), ((2, ((0, 1),)), (((4, 1), (5, 0)),)))

    def test_answers_turn_with_their_attributes(self):
        for query, store, _ in samples(60):
            for places in permutations(range(query[0])):
                other, turned = renamed(query, store, places)
                self.assertTrue(is_query(other) and is_store(other, turned))
                self.assertEqual(other[1], tuple(tuple(sorted(places[a] for a in atom)) for atom in query[1]))
                back = [tuple(row[places[a]] for a in range(query[0])) for row in plain_answers(other, turned)]
                self.assertEqual(tuple(sorted(back)), plain_answers(query, store))

    def test_nothing_new_by_the_plain_order(self):
        for query, store, _ in samples(40):
            self.assertEqual(renamed(query, store, tuple(range(query[0]))), (query, store))

    def test_wrong(self):
        check_guards(self, renamed, (TRIANGLE, TRIANGLE_STORE, (2, 0, 1)), [QUERY, STORE, PLACES])


class TestRestricted(unittest.TestCase):

    def test_rows(self):
        self.assertEqual(restricted(TRIANGLE, TRIANGLE_STORE, 1, 0), (((0, 0), (1, 0)), TRIANGLE_STORE[1], ((0, 0),)))
        self.assertEqual(restricted(TRIANGLE, TRIANGLE_STORE, 0, LAST), ((), (), TRIANGLE_STORE[2]))

    def test_answers_with_a_number(self):
        for query, store, _ in samples():
            for attribute in range(query[0]):
                for item in range(4):
                    few = restricted(query, store, attribute, item)
                    self.assertTrue(is_store(query, few))
                    kept = tuple(row for row in plain_answers(query, store) if row[attribute] == item)
                    self.assertEqual(plain_answers(query, few), kept)

    def test_wrong(self):
        check_guards(self, restricted, (TRIANGLE, TRIANGLE_STORE, 1, 0), [QUERY, STORE, ATTRIBUTE, NUMBER])


class TestValuesAt(unittest.TestCase):

    def test_numbers(self):
        self.assertEqual(values_at(TRIANGLE, TRIANGLE_STORE, 2), (0,))
        self.assertEqual(values_at(TRIANGLE, TRIANGLE_STORE, 0), (0, 1))
        self.assertEqual(values_at(EQUAL, (((0, 1),), ((0, 2),), ((1,),)), 0), (0,))
        self.assertEqual(values_at(EQUAL, (((0, 1),), ((0, 2),), ((1,),)), 1), ())
        self.assertEqual(values_at(ONE, (((3,), (LAST,)),), 0), (3, LAST))

    def test_numbers_of_all_tables(self):
        for query, store, _ in samples():
            for a in range(query[0]):
                lists = [{row[atom.index(a)] for row in table} for atom, table in zip(query[1], store) if a in atom]
                self.assertEqual(values_at(query, store, a), tuple(sorted(set.intersection(*lists))))

    def test_wrong(self):
        check_guards(self, values_at, (TRIANGLE, TRIANGLE_STORE, 2), [QUERY, STORE, ATTRIBUTE])


if __name__ == "__main__":
    unittest.main()
