import unittest
from itertools import product

from coverjoin.errors import BadAttribute, BadForest, BadQuery, NotHierarchical
from coverjoin.hierarchical import atoms_of, hierarchy, is_forest, is_hierarchy, sequence, way_to
from helper import EQUAL, NAMED, NOT_HIERARCHICAL, ONE, PATH, QUERY, RING, TRIANGLE, all_pairs_of, all_queries
from helper import check_guards, check_judge, good_forest, hierarchical_queries, is_hierarchical, number, plain_sequence
from helper import plain_told_forest, plain_way, raised, small_queries, some_queries

ROOTED = (2, ((0,), (0, 1)))
WOOD = (8, ((0,), (0, 1), (0, 1, 2), (3, 4), (3, 5), (6,), (3,), (6, 7)))


def queries():
    yield from small_queries()
    yield from NAMED
    yield from some_queries(150, 8, 8, 901)
    yield from hierarchical_queries(60, 6, 5, 902)
    yield WOOD


def good_pair(query, value):
    if type(value) is not tuple or len(value) != 6 or type(value[0]) is not str or value[0] != "pair":
        return False
    return all(number(item) for item in value[1:]) and value[1:] in list(all_pairs_of(query))


def good_hierarchy(query, value):
    if good_pair(query, value):
        return True
    return type(value) is tuple and len(value) == 2 and value[0] == "forest" and good_forest(query, value[1])


class TestHierarchy(unittest.TestCase):

    def test_by_hand(self):
        self.assertEqual(hierarchy(ROOTED), ("forest", (None, 0)))
        self.assertEqual(sequence(ROOTED), (0, 1))
        self.assertEqual(hierarchy(NOT_HIERARCHICAL), ("pair", 0, 1, 0, 1, 2))
        self.assertEqual(hierarchy(ONE), ("forest", (None,)))
        self.assertEqual(hierarchy((3, ((0, 1, 2),))), ("forest", (None, 0, 1)))
        self.assertEqual(hierarchy((3, ((0,), (1,), (2,)))), ("forest", (None, None, None)))
        self.assertEqual(sequence((3, ((0,), (1,), (2,)))), (0, 1, 2))
        self.assertEqual(hierarchy(WOOD), ("forest", (None, 0, 1, None, 3, 3, None, 6)))
        self.assertEqual(sequence(WOOD), (0, 1, 2, 3, 4, 5, 6, 7))
        self.assertEqual(hierarchy((4, ((1, 2), (1, 3), (0,), (1,)))), ("forest", (None, None, 1, 1)))
        self.assertEqual(sequence((4, ((1, 3), (1, 2), (0, 1)))), (1, 0, 2, 3))
        self.assertEqual(hierarchy(PATH), ("forest", (1, None, 1)))
        self.assertEqual(sequence(PATH), (1, 0, 2))
        self.assertEqual(hierarchy(TRIANGLE), ("pair", 0, 1, 1, 0, 2))

    def test_a_forest_or_a_pair(self):
        told = {"forest": 0, "pair": 0}
        for query in queries():
            found = hierarchy(query)
            pairs = list(all_pairs_of(query))
            told[found[0]] += 1
            if is_hierarchical(query):
                self.assertEqual(pairs, [])
                self.assertEqual(found, ("forest", plain_told_forest(query)))
                self.assertTrue(good_forest(query, found[1]))
                self.assertIs(is_forest(query, found[1]), True)
                self.assertEqual(sequence(query), plain_sequence(query))
            else:
                self.assertEqual(found, ("pair",) + min(pairs))
                error = raised(sequence, query)
                self.assertEqual((type(error), error.pair), (NotHierarchical, min(pairs)))
            self.assertIs(is_hierarchy(query, found), True)
        self.assertGreater(min(told.values()), 60)

    def test_no_forest_where_there_is_a_pair(self):
        for many, most in ((1, 2), (2, 3), (3, 2)):
            for query in all_queries(many, most):
                forests = [value for value in product([None, *range(many)], repeat=many) if is_forest(query, value)]
                self.assertEqual(forests, [value for value in product([None, *range(many)], repeat=many)
                                           if good_forest(query, value)])
                self.assertEqual(bool(forests), is_hierarchical(query))

    def test_pairs_that_are_not_the_least(self):
        for query in (TRIANGLE, RING, NOT_HIERARCHICAL, (3, ((0, 1), (1, 2), (0, 2), (0, 1)))):
            pairs = set(all_pairs_of(query))
            for value in product(range(query[0]), range(query[0]), *[range(len(query[1]))] * 3):
                self.assertIs(is_hierarchy(query, ("pair",) + value), value in pairs)

    def test_sequences_go_down(self):
        for query in hierarchical_queries(80, 8, 6, 903):
            order, forest = sequence(query), hierarchy(query)[1]
            self.assertEqual(sorted(order), list(range(query[0])))
            for a, up in enumerate(forest):
                self.assertTrue(up is None or order.index(up) < order.index(a))
                below = [k for k in range(query[0]) if a in plain_way(forest, order[k])]
                self.assertEqual(below, list(range(below[0], below[-1] + 1)))


class TestParts(unittest.TestCase):

    def test_atoms_of(self):
        for query in queries():
            for a in range(query[0]):
                self.assertEqual(atoms_of(query, a), tuple(k for k, atom in enumerate(query[1]) if a in atom))

    def test_way_to(self):
        self.assertEqual([way_to(WOOD, hierarchy(WOOD)[1], a) for a in (0, 2, 5, 6, 7)],
                         [(0,), (0, 1, 2), (3, 5), (6,), (6, 7)])
        # Another forest than the told one.
        both = (2, ((0, 1),))
        self.assertEqual((way_to(both, (1, None), 0), way_to(both, (None, 0), 1)), ((1, 0), (0, 1)))
        for query in hierarchical_queries(30, 6, 5, 904):
            forest = hierarchy(query)[1]
            for a in range(query[0]):
                self.assertEqual(way_to(query, forest, a), plain_way(forest, a))

    def test_is_forest_by_hand(self):
        for value, plain in (((None, 0), True), ((1, None), False), ((None, None), False), ((1, 0), False), ((0, None), False),
                             ((None, 1), False), ((None, 2), False), ((None, -1), False), ((None, False), False),
                             ([None, 0], False), ((None,), False), ((None, 0, 0), False), (((), 0), False)):
            self.assertIs(is_forest(ROOTED, value), plain, value)
        # A forest may go further down than the atoms do.
        self.assertIs(is_forest((2, ((0,), (0, 1))), (None, 0)), True)
        self.assertIs(is_forest((3, ((0, 1), (0, 1), (2,))), (1, None, None)), True)
        self.assertIs(is_forest((3, ((0, 1), (0, 1), (2,))), (1, None, 0)), False)

    def test_any_value(self):
        for query in (ROOTED, WOOD, PATH, EQUAL, NOT_HIERARCHICAL, TRIANGLE):
            found = hierarchy(query)
            forest = found[1] if found[0] == "forest" else (None,) * query[0]
            check_judge(self, lambda value: is_forest(query, value), lambda value: good_forest(query, value), [forest])
            check_judge(self, lambda value: is_hierarchy(query, value), lambda value: good_hierarchy(query, value),
                        [found, ("forest", forest), ("pair", forest), ("pair", 0, 1, 0, 1, 2)])
        deep = (None, 0)
        for _ in range(58):
            deep = (deep, 0)
        self.assertIs(is_forest(ROOTED, deep), False)
        self.assertIs(is_hierarchy(ROOTED, ("forest", deep)), False)


class TestWrong(unittest.TestCase):

    def test_wrong(self):
        for function in (hierarchy, sequence):
            check_guards(self, function, (ROOTED,), [QUERY])
        for function in (is_forest, is_hierarchy):
            check_guards(self, function, (ROOTED, None), [QUERY])
        attribute = (BadAttribute, lambda query, value: number(value) and value in range(query[0]))
        below = (BadAttribute, lambda query, forest, value: number(value) and value in range(query[0]))
        for query in (ROOTED, WOOD):
            for a in (0, query[0] - 1):
                check_guards(self, atoms_of, (query, a), [QUERY, attribute])
                check_guards(self, way_to, (query, hierarchy(query)[1], a), [QUERY, (BadForest, good_forest), below])
        for value in ((None, None), (1, None), None):
            self.assertIs(type(raised(way_to, NOT_HIERARCHICAL, value, None)), BadForest)
        self.assertIs(type(raised(sequence, (0, ()))), BadQuery)


if __name__ == "__main__":
    unittest.main()
