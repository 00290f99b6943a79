import unittest
from itertools import permutations

from coverjoin.bagtrees import bag_at, bag_tree_of, bags_of, is_bag_tree, order_from
from coverjoin.errors import BadAttribute, BadGone, BadOrder, BadTree
from helper import BAG_TREE, EQUAL, LINES, NAMED, ONE, PATH, QUERY, RING, TRIANGLE, WIDE, Dice, all_bag_trees, all_queries
from helper import an_order, check_guards, check_judge, good_bag_tree, good_order, number, order_tree, plain_bag
from helper import plain_bags, raised, rising, some_queries, subsets, trees_of

HAND = ((0, 1, 3), (1, 2, 3), (2, 3), (3,))


class TestBags(unittest.TestCase):

    def test_by_hand(self):
        self.assertEqual(bags_of(RING, (0, 1, 2, 3)), HAND)
        self.assertEqual(bag_tree_of(RING, (0, 1, 2, 3)), (HAND, (1, 2, 3, None)))
        self.assertEqual(bag_at(RING, (0,), 1), (1, 2, 3))
        self.assertEqual(bag_at(RING, (0, 1), 2), (2, 3))
        self.assertEqual(bag_at(RING, (0, 2), 1), (1, 3))
        self.assertEqual(bag_at(RING, (0, 1, 2), 3), (3,))
        self.assertEqual(bag_at(ONE, (), 0), (0,))
        self.assertEqual((bags_of(ONE, (0,)), bag_tree_of(ONE, (0,))), (((0,),), (((0,),), (None,))))
        # Steps lead only through what is gone.
        self.assertEqual([bag_at(PATH, gone, 0) for gone in ((), (1,), (2,), (1, 2))], [(0, 1), (0, 2), (0, 1), (0,)])
        # A bag with no others, ahead of the last one.
        self.assertEqual(bag_tree_of((3, ((0,), (1,), (2,))), (1, 0, 2)), (((1,), (0,), (2,)), (2, 2, None)))

    def test_all_that_may_be_gone(self):
        for query in (*all_queries(2, 3), *NAMED, *some_queries(40, 6, 6, 1001)):
            for gone in subsets(range(query[0])) if query[0] < 7 else [(), (3,), (0, 2, 5), tuple(range(6))]:
                for a in range(query[0]):
                    if a not in gone:
                        self.assertEqual(bag_at(query, gone, a), plain_bag(query, gone, a))

    def test_gone_but_one(self):
        for query in (TRIANGLE, RING, WIDE, LINES):
            for a in range(query[0]):
                gone = tuple(k for k in range(query[0]) if k != a)
                self.assertEqual(bag_at(query, gone, a), (a,))

    def test_all_orders(self):
        for query in (*all_queries(3, 2), TRIANGLE, PATH, RING, EQUAL, *some_queries(30, 5, 5, 1002)):
            for order in permutations(range(query[0])):
                bags = bags_of(query, order)
                self.assertEqual(bags, plain_bags(query, order))
                tree = bag_tree_of(query, order)
                self.assertEqual(tree, order_tree(query, order))
                self.assertTrue(good_bag_tree(query, tree))
                self.assertIs(is_bag_tree(query, tree), True)
                for k, a in enumerate(order):
                    self.assertEqual(bags[k], bag_at(query, tuple(sorted(order[:k])), a))

    def test_eight_attributes(self):
        dice = Dice(1003)
        for query in (WIDE, (8, tuple((k, k + 1) for k in range(7))), *some_queries(40, 8, 8, 1004)):
            for _ in range(4):
                order = an_order(dice, query)
                self.assertEqual(bag_tree_of(query, order), order_tree(query, order))
                self.assertIs(is_bag_tree(query, bag_tree_of(query, order)), True)


class TestOrderFrom(unittest.TestCase):

    def check_one(self, query, tree):
        order = order_from(query, tree)
        self.assertTrue(good_order(query, order))
        for bag in plain_bags(query, order):
            self.assertTrue(any(set(bag) <= set(other) for other in tree[0]), (query, tree, order))

    def test_all_trees_of_small_queries(self):
        for query in all_queries(2, 2):
            for tree in all_bag_trees(query, 3):
                self.check_one(query, tree)
        for query in (PATH, TRIANGLE, (3, ((0, 1), (2,))), (3, ((0,), (1,), (2,)))):
            for tree in all_bag_trees(query, 3):
                self.check_one(query, tree)

    def test_trees_of_orders_and_join_trees(self):
        dice = Dice(1005)
        for query in (*NAMED, *some_queries(60, 8, 8, 1006)):
            for _ in range(3):
                self.check_one(query, bag_tree_of(query, an_order(dice, query)))
            self.check_one(query, ((tuple(range(query[0])),), (None,)))
        for query in some_queries(60, 5, 4, 1007):
            for layout in trees_of(query):
                tree = (query[1], tuple(None if up == at else up for at, up in enumerate(layout)))
                self.assertIs(is_bag_tree(query, tree), True)
                self.check_one(query, tree)

    def test_bags_within_bags(self):
        tree = (((0, 1), (0,), (0, 1, 2), (1,), (2,), (0, 1), (1, 2), (1,)), (2, 0, None, 0, 2, 0, 2, 6))
        self.assertTrue(good_bag_tree(PATH, tree))
        self.check_one(PATH, tree)
        # All eight bags, one below the other.
        tree = (((0, 1, 2),) * 8, (None, 0, 1, 2, 3, 4, 5, 6))
        self.assertIs(is_bag_tree(TRIANGLE, tree), True)
        self.check_one(TRIANGLE, tree)
        self.assertIs(is_bag_tree(TRIANGLE, (((0, 1, 2),) * 9, (None, 0, 1, 2, 3, 4, 5, 6, 7))), False)


class TestIsBagTree(unittest.TestCase):

    def test_by_hand(self):
        for bags, parents, plain in ((HAND, (1, 2, 3, None), True), (HAND, (None, 0, 1, 2), True), (HAND, (1, 2, 3, 3), False),
                                     (HAND, (1, 2, None, None), False), (HAND, (1, 0, 3, None), False),
                                     (HAND, (1, 2, 3, 4), False), (HAND, (1, 2, 3), False), (HAND, (1, 2, 3, -1), False),
                                     (HAND[:2], (1, None), True), (HAND[:1], (None,), False), ((), (), False),
                                     (((0, 1), (1, 2), (2, 3), (0, 3)), (1, 2, 3, None), False),
                                     (((0, 1, 2, 3),), (None,), True), (((0, 1, 2, 3),), (0,), False),
                                     (((0, 1, 2, 3), ()), (None, 0), False), (((1, 0, 2, 3),), (None,), False),
                                     (((0, 1, 2, 3), (4,)), (None, 0), False), ([(0, 1, 2, 3)], (None,), False),
                                     (((0, 1, 2, 3),), [None], False), (((0, 1, 2, 3), (0,)), (None, False), False),
                                     (((0, 1, 2), (0, 2, 3), (1,)), (None, 0, 1), False)):
            self.assertIs(is_bag_tree(RING, (bags, parents)), plain, (bags, parents))

    def test_any_value(self):
        for query, tree in ((RING, (HAND, (1, 2, 3, None))), (ONE, (((0,),), (None,))), (PATH, (((0, 1), (1, 2)), (None, 0))),
                            (TRIANGLE, (((0, 1, 2),), (None,)))):
            check_judge(self, lambda value: is_bag_tree(query, value), lambda value: good_bag_tree(query, value), [tree])
        deep = (HAND, (1, 2, 3, None))
        for _ in range(57):
            deep = (deep, (None,))
        self.assertIs(is_bag_tree(RING, deep), False)


class TestWrong(unittest.TestCase):

    def test_wrong(self):
        gone = (BadGone, lambda query, gone: rising(gone, 0, query[0] - 1))
        attribute = (BadAttribute, lambda query, gone, a: number(a) and a in range(query[0]))
        order = (BadOrder, good_order)
        for query, told in ((RING, (0, 2)), (ONE, ())):
            check_guards(self, bag_at, (query, told, query[0] - 1), [QUERY, gone, attribute])
            for function in (bags_of, bag_tree_of):
                check_guards(self, function, (query, tuple(range(query[0]))), [QUERY, order])
        check_guards(self, is_bag_tree, (RING, None), [QUERY])
        check_guards(self, order_from, (RING, (HAND, (1, 2, 3, None))), [QUERY, BAG_TREE])
        self.assertIs(type(raised(order_from, TRIANGLE, (HAND, (1, 2, 3, None)))), BadTree)

    def test_an_attribute_that_is_gone(self):
        for query in (RING, WIDE):
            for gone in ((0,), (1, 2), tuple(range(query[0]))):
                for a in gone:
                    self.assertIs(type(raised(bag_at, query, gone, a)), BadGone)
                self.assertIs(type(raised(bag_at, query, gone, query[0])), BadAttribute)
                self.assertIs(type(raised(bag_at, query, gone, None)), BadAttribute)
            self.assertIs(type(raised(bag_at, query, (1, 0), query[0])), BadGone)


if __name__ == "__main__":
    unittest.main()
