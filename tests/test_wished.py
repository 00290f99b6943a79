import unittest
from itertools import permutations, product

from coverjoin.acyclic import knot
from coverjoin.errors import BadWished, Cyclic, NoPath
from coverjoin.wished import is_path, is_wished_tree, parts, path_of, path_store, traces, wished_answers, wished_tree
from helper import EQUAL, ONE, PARTS, PATH, QUERY, RING, STAR, STORE, TRIANGLE, TRIANGLE_STORE, acyclic_queries
from helper import acyclic_samples, check_guards, check_judge, every_kind, good_store, good_tree_of, has_ears, live_store
from helper import neighbours, numbers, part, plain_answers, raised, rising, samples, small_queries, some_queries, subsets

LINE_OF_5 = (5, ((0, 1), (1, 2), (2, 3), (3, 4)))
HUNDREDS = tuple(tuple((n,) for n in range(400)) for _ in range(3))


def good_path(query, wished, value):
    if type(value) is not tuple or not numbers(value, len(value), 0, query[0] - 1) or len(value) < 3:
        return False
    if len(set(value)) < len(value) or value[0] not in wished or value[-1] not in wished or value[0] >= value[-1]:
        return False
    if set(value[1:-1]) & set(wished):
        return False
    return all(neighbours(query, value[j], value[k]) == (k == j + 1) for k in range(len(value)) for j in range(k))


def good_wished_tree(query, wished, value):
    return good_tree_of(query[1] + (wished,), value) and value[-1] == len(query[1])


def all_paths(query, wished):
    return [value for length in range(3, query[0] + 1) for value in permutations(range(query[0]), length)
            if good_path(query, wished, value)]


def plain_wished(query, store, wished):
    return tuple(sorted({part(row, wished) for row in plain_answers(query, store)}))


def plain_traces(query, wished):
    told = {tuple(a for a in atom if a in wished) for atom in query[1]}
    return tuple(sorted(one for one in told if not any(set(one) < set(other) for other in told)))


class TestWished(unittest.TestCase):

    def test_wished_answers(self):
        for query, store in samples(120, 4, 4, 3, 8, 500):
            for wished in subsets(range(query[0])):
                self.assertEqual(wished_answers(query, store, wished), plain_wished(query, store, wished))

    def test_few_wished_answers_of_many_answers(self):
        query = (3, ((0,), (1,), (2,)))
        self.assertEqual(wished_answers(query, HUNDREDS, ()), ((),))
        self.assertEqual(wished_answers(query, HUNDREDS, (1,)), HUNDREDS[1])
        self.assertEqual(wished_answers(query, HUNDREDS[:2] + ((),), (1,)), ())
        self.assertEqual(wished_answers(query, HUNDREDS[:2] + ((),), ()), ())

    def test_exactly_one_of_the_two(self):
        for query in acyclic_queries(120, 5, 5, 510):
            for wished in subsets(range(query[0])):
                path, tree = path_of(query, wished), wished_tree(query, wished)
                every = all_paths(query, wished)
                self.assertEqual(path, every[0] if every else None)
                self.assertEqual(tree is None, path is not None)
                if tree is not None:
                    self.assertTrue(good_wished_tree(query, wished, tree))
                    self.assertIs(is_wished_tree(query, wished, tree), True)
                else:
                    self.assertIs(is_path(query, wished, path), True)

    def test_a_path_exactly_if_no_wished_tree_at_all(self):
        for query in list(small_queries())[::3]:
            if has_ears(query):
                for wished in subsets(range(query[0])):
                    many = len(query[1]) + 1
                    trees = [value for value in product(range(many), repeat=many) if good_wished_tree(query, wished, value)]
                    self.assertEqual(bool(trees), path_of(query, wished) is None)
                    for value in product(range(many), repeat=many):
                        self.assertIs(is_wished_tree(query, wished, value), value in trees)

    def test_is_path(self):
        for query in list(small_queries())[::7] + list(some_queries(40, 5, 5, 520)) + [RING, LINE_OF_5]:
            for wished in subsets(range(query[0])):
                for length in range(min(query[0], 4) + 1):
                    for value in permutations(range(query[0]), length):
                        self.assertIs(is_path(query, wished, value), good_path(query, wished, value))

    def test_any_value(self):
        for query, wished, sample in ((PATH, (0, 2), (0, 1, 2)), (LINE_OF_5, (0, 4), (0, 1, 2, 3, 4)), (RING, (0, 2), (0, 3, 2))):
            self.assertTrue(good_path(query, wished, sample))
            check_judge(self, lambda value: is_path(query, wished, value), lambda value: good_path(query, wished, value),
                        [sample])
        for query, wished, sample in ((PATH, (0, 1), (2, 0, 2)), (ONE, (), (1, 1)), (STAR, (3,), (3, 3, 3, 3))):
            self.assertTrue(good_wished_tree(query, wished, sample))
            check_judge(self, lambda value: is_wished_tree(query, wished, value),
                        lambda value: good_wished_tree(query, wished, value), [sample])

    def test_by_hand(self):
        self.assertEqual(path_of(PATH, (0, 2)), (0, 1, 2))
        self.assertEqual(path_of(STAR, (0, 1, 2)), (0, 3, 1))
        self.assertEqual(path_of(LINE_OF_5, (0, 2, 4)), (0, 1, 2))
        self.assertIsNone(wished_tree(PATH, (0, 2)))
        self.assertEqual(wished_tree(PATH, (0, 1)), (2, 0, 2))
        self.assertIsNone(path_of(PARTS, (0, 3)))


class TestParts(unittest.TestCase):

    def test_traces(self):
        for query in list(small_queries())[::3] + list(some_queries(60, 5, 5, 530)) + [TRIANGLE, RING, EQUAL]:
            for wished in subsets(range(query[0])):
                self.assertEqual(traces(query, wished), plain_traces(query, wished))
        self.assertEqual(traces(PATH, (0, 2)), ((0,), (2,)))
        self.assertEqual(traces(PATH, ()), ((),))

    def test_parts(self):
        for query, store in acyclic_samples(120, 4, 5, 3, 8, 540):
            for wished in subsets(range(query[0])):
                found = plain_wished(query, store, wished)
                told = []
                for trace in plain_traces(query, wished):
                    told.append(tuple(sorted({part(row, [wished.index(a) for a in trace]) for row in found})))
                self.assertEqual(parts(query, store, wished), tuple(told))

    def fitting(self, query, store, wished):
        """All tuples of numbers that have a row of the table of parts at each trace."""
        tables = parts(query, store, wished)
        numbers_there = sorted({n for table in store for row in table for n in row})
        places = [[wished.index(a) for a in trace] for trace in traces(query, wished)]
        return [row for row in product(numbers_there, repeat=len(wished))
                if all(part(row, at) in table for at, table in zip(places, tables))]

    def test_connected_wished_answers_are_all_that_fit(self):
        for query, store in acyclic_samples(60, 4, 4, 2, 8, 550):
            for wished in subsets(range(query[0])):
                found = plain_wished(query, store, wished)
                if path_of(query, wished) is None:
                    self.assertEqual(tuple(self.fitting(query, store, wished)), found)
                else:
                    self.judged(query, wished)

    def judged(self, query, wished):
        store = path_store(query, wished)
        self.assertTrue(good_store(query, store))
        self.assertTrue(all(n in (0, 1) for table in store for row in table for n in row))
        self.assertEqual(live_store(query, store), store)
        self.assertNotEqual(tuple(self.fitting(query, store, wished)), plain_wished(query, store, wished))

    def test_path_stores(self):
        for query in acyclic_queries(80, 5, 5, 560):
            for wished in subsets(range(query[0])):
                if all_paths(query, wished):
                    self.judged(query, wished)
                else:
                    self.assertIs(type(raised(path_store, query, wished)), NoPath)

    def test_by_hand(self):
        store = (((0, 0), (1, 1)),) * 2
        self.assertEqual(wished_answers(PATH, store, (0, 2)), ((0, 0), (1, 1)))
        self.assertEqual(parts(PATH, store, (0, 2)), (((0,), (1,)), ((0,), (1,))))
        self.assertIn((0, 1), self.fitting(PATH, store, (0, 2)))


class TestWrong(unittest.TestCase):

    def test_wrong(self):
        wished = (BadWished, lambda *arguments: rising(arguments[-1], 0, arguments[0][0] - 1))
        store = (((0, 0),), ((0, 5),))
        for told in ((), (0, 2), (0, 1)):
            for function in (wished_answers, parts):
                check_guards(self, function, (PATH, store, told), [QUERY, STORE, wished])
            for function in (path_of, wished_tree, traces):
                check_guards(self, function, (PATH, told), [QUERY, wished])
            check_guards(self, is_path, (PATH, told, (0, 1, 2)), [QUERY, wished])
            check_guards(self, is_wished_tree, (PATH, told, (2, 0, 2)), [QUERY, wished])
        check_guards(self, path_store, (PATH, (0, 2)), [QUERY, wished])

    def test_cyclic(self):
        for query in list(small_queries())[::9] + list(some_queries(40, 5, 5, 570)) + [TRIANGLE]:
            if not has_ears(query):
                for value in [()] + every_kind():
                    for call in ((path_of, query, value), (wished_tree, query, value), (path_store, query, value),
                                 (parts, query, tuple(() for _ in query[1]), value)):
                        error = raised(*call)
                        if rising(value, 0, query[0] - 1):
                            self.assertIs(type(error), Cyclic)
                            self.assertEqual(error.knot, knot(query))
                        else:
                            self.assertIs(type(error), BadWished)
        self.assertEqual(wished_answers(TRIANGLE, TRIANGLE_STORE, (0, 1)), ((0, 0), (0, 1), (1, 0)))


if __name__ == "__main__":
    unittest.main()
