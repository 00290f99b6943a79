import unittest

from coverjoin.answers import answers
from coverjoin.errors import BadNode, BadPlan
from coverjoin.pairs import greatest_middle, is_plan, middles, node_table
from helper import ONE, QUERY, RING, STORE, THRIFTY, TRIANGLE, TRIANGLE_STORE, WIDE, Dice, check_guards, check_judge
from helper import every_kind, good_plan, plain_nodes, plain_table, plans_of, rising, samples, some_store, subsets

DEEP = (((((((0, 1), 2), 3), 4), 5), 6), 7)
DEEP_RIGHT = (7, (6, (5, (4, (3, (2, (1, 0)))))))
EVEN = (((0, 7), (1, 6)), ((2, 5), (3, 4)))


def stores(many=100):
    yield from samples(many, 4, 4, 3, 7, 150)


class TestIsPlan(unittest.TestCase):

    def test_any_value(self):
        check_judge(self, lambda value: is_plan(TRIANGLE, value), lambda value: good_plan(TRIANGLE, value),
                    [((0, 1), 2), (2, (1, 0)), (0, (2, 1))])
        check_judge(self, lambda value: is_plan(ONE, value), lambda value: good_plan(ONE, value), [0])
        check_judge(self, lambda value: is_plan(WIDE, value), lambda value: good_plan(WIDE, value),
                    [DEEP, DEEP_RIGHT, EVEN])

    def test_all_plans(self):
        self.assertEqual(len(list(plans_of([0, 1, 2, 3]))), 15)
        for plan in plans_of([0, 1, 2, 3]):
            self.assertIs(is_plan(RING, plan), True)

    def test_deep_values(self):
        for leaf in (0, 1, "a"):
            value = whole = leaf
            for _ in range(60):
                value, whole = (value, leaf), (whole, whole)
            self.assertIs(is_plan(WIDE, value), False)
            self.assertIs(is_plan(WIDE, whole), False)

    def test_wrong(self):
        check_guards(self, is_plan, (TRIANGLE, ((0, 1), 2)), [QUERY])


class TestNodeTable(unittest.TestCase):

    def test_all_lots_of_atoms(self):
        for query, store in stores():
            for atoms in subsets(range(len(query[1])))[1:]:
                for thrifty in (False, True):
                    self.assertEqual(node_table(query, store, atoms, thrifty), plain_table(query, store, atoms, thrifty))
                self.assertEqual(node_table(query, store, atoms), plain_table(query, store, atoms))

    def test_all_atoms(self):
        for query, store in stores():
            every = tuple(range(len(query[1])))
            found = answers(query, store)
            self.assertEqual(node_table(query, store, every), (tuple(range(query[0])), found))
            self.assertEqual(node_table(query, store, every, True), ((), ((),) if found else ()))

    def test_joined_of_two_tables(self):
        for query, store in stores(40):
            every = range(len(query[1]))
            for one in subsets(every)[1:]:
                for other in subsets([at for at in every if at not in one])[1:]:
                    for thrifty in (False, True):
                        self.joined(query, store, one, other, thrifty)

    def joined(self, query, store, one, other, thrifty):
        left, right = node_table(query, store, one, thrifty), node_table(query, store, other, thrifty)
        kept, rows = node_table(query, store, tuple(sorted(one + other)), thrifty)
        found = set()
        for row in left[1]:
            for there in right[1]:
                told = dict(zip(left[0], row))
                if all(told.setdefault(a, n) == n for a, n in zip(right[0], there)):
                    found.add(tuple(told[a] for a in kept))
        self.assertEqual(tuple(sorted(found)), rows)

    def test_a_thrifty_table_of_many_rows(self):
        query = (4, ((0,), (1,), (2,), (3,)))
        store = tuple(tuple((n,) for n in range(400)) for _ in range(4))
        self.assertEqual(node_table(query, store, (0, 1, 2, 3), True), ((), ((),)))
        self.assertEqual(node_table(query, store, (0, 2, 3), thrifty=True), ((), ((),)))

    def test_wrong(self):
        node = (BadNode, lambda query, store, atoms: rising(atoms, 0, 2) and len(atoms) > 0)
        for good in (True, False):
            check_guards(self, node_table, (TRIANGLE, TRIANGLE_STORE, (0, 2), good), [QUERY, STORE, node, THRIFTY])
        for value in every_kind():
            if value is not True and value is not False:
                with self.assertRaises(THRIFTY[0]):
                    node_table(TRIANGLE, TRIANGLE_STORE, (0,), thrifty=value)


class TestMiddles(unittest.TestCase):

    def test_by_hand(self):
        store = (((0, 0), (0, 1), (1, 0)),) * 3
        self.assertEqual(middles(TRIANGLE, store, ((0, 1), 2)), (((0, 1), 5),))
        self.assertEqual(middles(TRIANGLE, store, ((0, 1), 2), True), (((0, 1), 4),))
        self.assertEqual(greatest_middle(TRIANGLE, store, ((0, 1), 2)), 5)
        self.assertEqual(greatest_middle(TRIANGLE, store, ((0, 1), 2), True), 4)
        self.assertEqual(middles(ONE, (((0,),),), 0), ())
        self.assertEqual(greatest_middle(ONE, (((0,),),), 0), 0)

    def test_the_sequence_of_nodes(self):
        store = some_store(Dice(2), WIDE, 2, 40)
        self.assertEqual([atoms for atoms, _ in middles(WIDE, store, EVEN)],
                         [(0, 7), (1, 6), (0, 1, 6, 7), (2, 5), (3, 4), (2, 3, 4, 5)])
        self.assertEqual([atoms for atoms, _ in middles(WIDE, store, DEEP)],
                         [tuple(range(k)) for k in range(2, 8)])
        self.assertEqual([atoms for atoms, _ in middles(WIDE, store, DEEP_RIGHT)],
                         [tuple(range(k)) for k in range(2, 8)])

    def test_sizes(self):
        for query, store in stores(60):
            for plan in plans_of(list(range(len(query[1])))):
                for thrifty in (False, True):
                    told = tuple((atoms, len(plain_table(query, store, atoms, thrifty)[1]))
                                 for atoms in plain_nodes(plan)[:-1] if len(atoms) > 1)
                    self.assertEqual(middles(query, store, plan, thrifty), told)
                    greatest = max((size for _, size in told), default=0)
                    self.assertEqual(greatest_middle(query, store, plan, thrifty=thrifty), greatest)

    def test_thrifty_is_no_more(self):
        for query, store in stores(60):
            for plan in plans_of(list(range(len(query[1])))):
                for whole, thrifty in zip(middles(query, store, plan), middles(query, store, plan, True)):
                    self.assertEqual(whole[0], thrifty[0])
                    self.assertLessEqual(thrifty[1], whole[1])

    def test_wrong(self):
        plan = (BadPlan, lambda query, store, value: good_plan(query, value))
        for function in (middles, greatest_middle):
            check_guards(self, function, (TRIANGLE, TRIANGLE_STORE, ((0, 1), 2), True), [QUERY, STORE, plan, THRIFTY])
            check_guards(self, function, (ONE, (((0,),),), 0, False), [QUERY, STORE, plan, THRIFTY])


if __name__ == "__main__":
    unittest.main()
