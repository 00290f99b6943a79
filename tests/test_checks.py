import unittest

from coverjoin.checks import is_query, is_store
from helper import EQUAL, LAST, NAMED, ONE, PATH, QUERY, TRIANGLE, TRIANGLE_STORE, Dice, check_guards, check_judge
from helper import every_kind, good_query, good_store, small_queries, some_queries, some_store


class TestIsQuery(unittest.TestCase):

    def test_queries_of_all_sizes(self):
        for query in NAMED:
            self.assertIs(is_query(query), True)
        for query in small_queries():
            self.assertIs(is_query(query), True)
        self.assertIs(is_query((8, (tuple(range(8)),) * 8)), True)

    def test_edges(self):
        for value in [(0, ()), (0, ((),)), (1, ()), (1, ((),)), (1, ((), (0,))), (9, (tuple(range(9)),)), (1, ((0,),) * 9),
                      (2, ((0,),)), (2, ((1,),)), (1, ((0, 1),)), (2, ((1, 0),)), (2, ((0, 0), (1,))), (-1, ((0,),)),
                      (2, ((-1, 0), (1,))), (True, ((0,),)), (1, ((False,),)), (2, ((0, True),)), [1, ((0,),)],
                      (1, [(0,)]), (1, ([0],)), (1, ((0,),), 0), (1,), (), (10 ** 18, ((0,),)), (1, ((10 ** 18,),)),
                      (1, {0: (0,)}), ("1", ((0,),)), (1, "0"), (1, (0,))]:
            self.assertIs(is_query(value), False, value)
        for value in every_kind():
            self.assertIs(is_query(value), False, value)

    def test_what_is_unlike_a_query_at_one_place(self):
        check_judge(self, is_query, good_query, [TRIANGLE, PATH, EQUAL, ONE, (3, ((0, 1, 2), (1,)))])


class TestIsStore(unittest.TestCase):

    def test_stores(self):
        self.assertIs(is_store(TRIANGLE, TRIANGLE_STORE), True)
        dice = Dice(2)
        for query in some_queries(60, 4, 4):
            self.assertIs(is_store(query, some_store(dice, query, 4, 6)), True)
            self.assertIs(is_store(query, ((),) * len(query[1])), True)

    def test_edges(self):
        self.assertIs(is_store(ONE, (((0,), (LAST,)),)), True)
        for table in [((0,), (LAST + 1,)), ((-1,),), ((1,), (0,)), ((0,), (0,)), ((True,),), ((False,), (1,)),
                      [(0,)], ([0],), ((),), ((0, 0),), (0,), ((0,), None), "", "a", None, {}, {(0,): 0}, (("0",),)]:
            self.assertIs(is_store(ONE, (table,)), False, table)
        self.assertIs(is_store(ONE, ()), False)
        self.assertIs(is_store(ONE, ((), ())), False)
        self.assertIs(is_store(ONE, [()]), False)

    def test_many_rows_are_no_fault(self):
        self.assertIs(is_store(ONE, (tuple((k,) for k in range(900)),)), True)

    def test_what_is_unlike_a_store_at_one_place(self):
        for query, store in ((TRIANGLE, TRIANGLE_STORE), (ONE, (((0,), (5,)),)), (EQUAL, (((0, 1),), (), ((1,), (2,))))):
            check_judge(self, lambda value: is_store(query, value), lambda value: good_store(query, value), [store])

    def test_wrong_queries(self):
        check_guards(self, is_store, (TRIANGLE, TRIANGLE_STORE), [QUERY])


if __name__ == "__main__":
    unittest.main()
