import unittest

from coverjoin.acyclic import is_acyclic
from coverjoin.answers import answers
from coverjoin.bagplans import bag_cut, bag_query, bag_store, by_bags
from coverjoin.bagtrees import bag_tree_of
from coverjoin.checks import is_query, is_store
from coverjoin.errors import BadBag, BadStore, BadTree
from coverjoin.widths import weight, width_paper
from helper import BAG_TREE, EQUAL, ONE, PARTS, PATH, QUERY, RING, STORE, TRIANGLE, TRIANGLE_STORE, Dice, all_bag_trees
from helper import all_stores, an_order, candidates, check_guards, good_bag, good_cover, part, plain_answers, powers_of
from helper import raised, samples, some_store, subsets

WHOLE = (((0, 1, 2),), (None,))


def plain_bag_table(query, store, bag):
    """The rows of a bag, by looking through all tuples of numbers."""
    held = [(tuple(a for a in atom if a in bag), table, atom) for atom, table in zip(query[1], store)]
    held = [(told, {part(row, [atom.index(a) for a in told]) for row in table}) for told, table, atom in held if told]
    cut = (len(bag), tuple(tuple(bag.index(a) for a in told) for told, _ in held))
    return plain_answers(cut, tuple(tuple(sorted(rows)) for _, rows in held))


class TestByHand(unittest.TestCase):

    def test_bag_cut(self):
        self.assertEqual(bag_cut(TRIANGLE, (0, 2)), (2, ((0,), (0, 1), (1,))))
        self.assertEqual(bag_cut(RING, (1, 3)), (2, ((0,), (0,), (1,), (1,))))
        self.assertEqual(bag_cut(PARTS, (2, 3)), (2, ((0,), (0, 1))))
        self.assertEqual(bag_cut(PARTS, (0,)), (1, ((0,),)))
        self.assertEqual(bag_cut(TRIANGLE, (0, 1, 2)), TRIANGLE)
        self.assertEqual(bag_cut(ONE, (0,)), ONE)

    def test_bag_query(self):
        self.assertEqual(bag_query(RING, (((0, 1, 3), (1, 2, 3)), (1, None))), (4, ((0, 1, 3), (1, 2, 3))))
        self.assertEqual(bag_query(TRIANGLE, WHOLE), (3, ((0, 1, 2),)))

    def test_bag_store(self):
        self.assertEqual(bag_store(TRIANGLE, TRIANGLE_STORE, WHOLE), (((0, 0, 0), (0, 1, 0), (1, 0, 0)),))
        tree = (((0, 1), (1, 2)), (None, 0))
        self.assertEqual(bag_store(PATH, (((0, 0), (1, 5)), ((0, 7), (0, 8))), tree), (((0, 0),), ((0, 7), (0, 8))))
        self.assertEqual(by_bags(PATH, (((0, 0), (1, 5)), ((0, 7), (0, 8))), tree), ((0, 0, 7), (0, 0, 8)))

    def test_an_atom_with_nothing_in_a_bag(self):
        # The empty table has nothing in the first bag, but leaves no answer all the same.
        query, tree = (2, ((0,), (1,))), (((0,), (1,)), (None, 0))
        self.assertEqual(bag_store(query, (((4,),), ()), tree), (((4,),), ()))
        self.assertEqual(by_bags(query, (((4,),), ()), tree), ())
        self.assertEqual(by_bags(query, (((4,),), ((3,),)), tree), ((4, 3),))


class TestPlans(unittest.TestCase):

    def check_one(self, query, store, tree):
        self.assertEqual(bag_query(query, tree), (query[0], tree[0]))
        self.assertIs(is_query(bag_query(query, tree)), True)
        self.assertIs(is_acyclic(bag_query(query, tree)), True)
        tables = bag_store(query, store, tree)
        self.assertIs(is_store(bag_query(query, tree), tables), True)
        for bag, table in zip(tree[0], tables, strict=True):
            self.assertEqual(table, plain_bag_table(query, store, bag))
        found = plain_answers(query, store)
        self.assertEqual(by_bags(query, store, tree), found)
        self.assertEqual(plain_answers(bag_query(query, tree), tables), found)

    def test_all_trees_of_small_queries(self):
        dice = Dice(1021)
        for query in (PATH, TRIANGLE, (3, ((0, 1), (2,))), EQUAL):
            for tree in all_bag_trees(query, 2):
                self.check_one(query, some_store(dice, query, 3, 6), tree)
        for query in ((2, ((0,), (0, 1))), (2, ((0,), (1,)))):
            for tree in all_bag_trees(query, 2):
                for store in all_stores(query, 2):
                    self.assertEqual(by_bags(query, store, tree), plain_answers(query, store))

    def test_trees_of_orders(self):
        dice = Dice(1022)
        for query, store in samples(120, 4, 5, 3, 8, 1023):
            self.check_one(query, store, bag_tree_of(query, an_order(dice, query)))
            self.check_one(query, store, ((tuple(range(query[0])),), (None,)))

    def test_rows_are_within_the_bound(self):
        dice = Dice(1024)
        for query, store in samples(60, 4, 4, 4, 9, 1025):
            tree = bag_tree_of(query, an_order(dice, query))
            for bag, table in zip(tree[0], bag_store(query, store, tree)):
                inside = [bool(set(atom) & set(bag)) for atom in query[1]]
                for cover in candidates(query, 2):
                    if good_cover(query, cover, bag):
                        told = [n if there else 0 for n, there in zip(cover[0], inside)]
                        self.assertLessEqual(len(table) ** cover[1], powers_of([len(t) for t in store], told))

    def test_trees_of_the_width(self):
        dice = Dice(1026)
        for query in (TRIANGLE, RING, (4, tuple((j, k) for k in range(4) for j in range(k)))):
            (top, bottom), tree = width_paper(query)[:2]
            store = some_store(dice, query, 8, 40)
            most = max(len(table) for table in store)
            for bag, table in zip(tree[0], bag_store(query, store, tree)):
                self.assertLessEqual(len(table) ** bottom, most ** top)
                self.assertLessEqual(weight(query, bag)[0] * bottom, top * weight(query, bag)[1])
            self.assertEqual(by_bags(query, store, tree), answers(query, store))

    def test_eight_attributes(self):
        dice = Dice(1027)
        query = (8, tuple((k, k + 1) for k in range(7)) + ((0, 7),))
        store = tuple(tuple(sorted({(dice.below(4), dice.below(4)) for _ in range(8)})) for _ in range(8))
        tree = width_paper(query)[1]
        self.assertEqual(by_bags(query, store, tree), answers(query, store))
        full = tuple((m, n) for m in range(20) for n in range(20))
        tree = (((0, 1, 2), (0, 2, 3)), (None, 0))
        one = (full[:1], full, full, full[:3])
        self.assertEqual(by_bags(RING, one, tree), answers(RING, one))


class TestWrong(unittest.TestCase):

    def test_wrong(self):
        for query, good in ((TRIANGLE, (0, 2)), (ONE, (0,))):
            check_guards(self, bag_cut, (query, good), [QUERY, (BadBag, good_bag)])
        check_guards(self, bag_query, (TRIANGLE, WHOLE), [QUERY, BAG_TREE])
        for function in (bag_store, by_bags):
            check_guards(self, function, (TRIANGLE, TRIANGLE_STORE, WHOLE), [QUERY, STORE, BAG_TREE])
            self.assertIs(type(raised(function, TRIANGLE, (), None)), BadStore)
            self.assertIs(type(raised(function, TRIANGLE, TRIANGLE_STORE, (((0, 1), (1, 2)), (None, 0)))), BadTree)
        for bag in subsets(range(3)):
            self.assertIs(type(raised(bag_cut, TRIANGLE, bag)), type(None) if bag else BadBag)


if __name__ == "__main__":
    unittest.main()
