import unittest
from itertools import product

from coverjoin.answers import answers, is_answer
from coverjoin.tables import restricted
from helper import EQUAL, LAST, ONE, PARTS, PATH, QUERY, STORE, TRIANGLE, TRIANGLE_STORE, Dice, all_queries, all_stores
from helper import check_guards, every_kind, part, plain_answers, some_queries, some_store, wrong_values


def samples(many=150, seed=5, limit=3, rows=9):
    dice = Dice(seed)
    for query in some_queries(many, 5, 5, seed):
        yield query, some_store(dice, query, limit, rows)


class TestAnswers(unittest.TestCase):

    def test_example_by_hand(self):
        self.assertEqual(answers(TRIANGLE, TRIANGLE_STORE), ((0, 0, 0), (0, 1, 0), (1, 0, 0)))

    def test_all_small_stores(self):
        for many, most in ((1, 3), (2, 2)):
            for query in all_queries(many, most):
                for store in all_stores(query, 2):
                    self.assertEqual(answers(query, store), plain_answers(query, store))

    def test_made_stores(self):
        for query, store in samples():
            self.assertEqual(answers(query, store), plain_answers(query, store))
        for query, store in samples(60, 6, 2, 40):
            self.assertEqual(answers(query, store), plain_answers(query, store))

    def test_great_numbers(self):
        store = (((0, LAST), (LAST, LAST)), ((LAST, 5), (LAST, LAST)))
        self.assertEqual(answers(PATH, store), ((0, LAST, 5), (0, LAST, LAST), (LAST, LAST, 5), (LAST, LAST, LAST)))

    def test_great_tables(self):
        ends = tuple(tuple((k, k) for k in range(400)) for _ in range(7))
        star = (8, tuple((k, 7) for k in range(7)))
        self.assertEqual(answers(star, ends), tuple((k,) * 8 for k in range(400)))
        single = tuple((k,) for k in range(400))
        # 400 ** 4 tuples for the first attributes, and no answer for the others.
        query = (6, ((0,), (1,), (2,), (3,), (4, 5), (4, 5)))
        self.assertEqual(answers(query, (single,) * 4 + (((0, 1),), ((1, 0),))), ())
        full = tuple(product(range(20), repeat=2))
        self.assertEqual(len(answers(TRIANGLE, (full,) * 3)), 8000)
        self.assertEqual(len(answers((2, ((0,), (1,))), (single[:100], single[:200]))), 20000)

    def test_a_table_without_rows_leaves_none(self):
        for query, store in samples(60):
            for k in range(len(store)):
                self.assertEqual(answers(query, store[:k] + ((),) + store[k + 1:]), ())

    def test_more_rows_take_none_away(self):
        dice = Dice(8)
        for query, store in samples(80):
            other = some_store(dice, query, 3, 9)
            more = tuple(tuple(sorted(set(one) | set(two))) for one, two in zip(store, other))
            self.assertLessEqual(set(answers(query, store)), set(answers(query, more)))

    def test_rows_in_no_answer_may_go(self):
        for query, store in samples(80):
            found = answers(query, store)
            kept = tuple(tuple(sorted({part(row, atom) for row in found})) for atom in query[1])
            for table, rows in zip(store, kept):
                self.assertLessEqual(set(rows), set(table))
            self.assertEqual(answers(query, kept), found)

    def test_equal_atoms_ask_for_rows_of_both(self):
        one, other = ((0, 0), (0, 1), (1, 1)), ((0, 1), (1, 0), (1, 1))
        self.assertEqual(answers(EQUAL, (one, other, ((0,), (1,)))), ((0, 1), (1, 1)))
        for query, store in samples(60):
            double = (query[0], query[1] + query[1][:1])
            table = store[0][::2]
            less = (table,) + store[1:]
            self.assertEqual(answers(double, store + (table,)), answers(query, less))

    def test_parts_without_links_are_paired(self):
        dice = Dice(9)
        for _ in range(60):
            store = some_store(dice, PARTS, 3, 6)
            left = answers((2, ((0, 1),)), store[:1])
            right = answers((2, ((0,), (0, 1))), store[1:])
            self.assertEqual(answers(PARTS, store), tuple(one + two for one in left for two in right))

    def test_answers_of_restricted_stores(self):
        for query, store in samples(60):
            for attribute in range(query[0]):
                for item in range(3):
                    few = answers(query, restricted(query, store, attribute, item))
                    self.assertEqual(few, tuple(row for row in answers(query, store) if row[attribute] == item))

    def test_wrong(self):
        check_guards(self, answers, (TRIANGLE, TRIANGLE_STORE), [QUERY, STORE])


class TestIsAnswer(unittest.TestCase):

    def test_all_tuples(self):
        for query, store in samples(80):
            found = set(plain_answers(query, store))
            for row in product(range(4), repeat=query[0]):
                self.assertIs(is_answer(query, store, row), row in found)

    def test_any_value(self):
        for query, store in ((TRIANGLE, TRIANGLE_STORE), (ONE, (((0,), (1,), (LAST,)),))):
            for answer in answers(query, store):
                for value in wrong_values(answer):
                    plain = type(value) is tuple and all(type(item) is int for item in value)
                    self.assertIs(is_answer(query, store, value), plain and value in answers(query, store), value)
        self.assertIs(is_answer(ONE, (((1,),),), (True,)), False)
        self.assertIs(is_answer(ONE, (((1,),),), [1]), False)
        for value in every_kind():
            self.assertIs(is_answer(TRIANGLE, TRIANGLE_STORE, value), False)

    def test_wrong(self):
        check_guards(self, is_answer, (TRIANGLE, TRIANGLE_STORE, (0, 0, 0)), [QUERY, STORE])


if __name__ == "__main__":
    unittest.main()
