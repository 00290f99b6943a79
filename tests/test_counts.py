import unittest
from itertools import permutations

from coverjoin.acyclic import knot
from coverjoin.counts import count, dead_end, is_weights, kth, place_of, smooth_order, trio, uses, weights
from coverjoin.errors import BadOrder, BadPlace, BadTree, BadWished, Cyclic, NoAnswer, NotSmooth
from helper import EQUAL, LAST, ONE, PATH, QUERY, STAR, STORE, TRIANGLE, TRIANGLE_STORE, Dice, acyclic_queries
from helper import acyclic_samples, agrees, check_guards, every_kind, good_order, good_sequence, good_store, good_tree
from helper import has_ears, live_store, meet, number, part, plain_answers, plain_beginnings, plain_trio, raised, rising
from helper import sequences, small_queries, smooth_orders, some_queries, some_store, spoilt, subsets, trees_of, turned
from helper import wrong_values

BY_HAND = (((0, 0), (1, 0), (1, 1)), ((0, 5), (0, 7), (1, 6)))
EIGHT = (8, tuple((k,) for k in range(8)))
HUNDREDS = tuple(tuple((n,) for n in range(400)) for _ in range(8))
LONG = (8, tuple((k, k + 1) for k in range(7)))
FULL = tuple(tuple((m, n) for m in range(20)) for n in range(20))
FULL = tuple(sorted(row for rows in FULL for row in rows))


def plain_weights(query, store, tree):
    def weight(at, row):
        product = 1
        for child in range(len(tree)):
            if tree[child] == at and child != at:
                product *= sum(weight(child, there) for there in store[child] if meet(query, at, row, child, there))
        return product
    return tuple(tuple(weight(at, row) for row in table) for at, table in enumerate(store))


def all_stores_of(query):
    """Stores of 0 and 1 all of whose rows are live, by a fixed rule."""
    dice = Dice(len(query[1]) + query[0])
    return [live_store(query, some_store(dice, query, 2, 6)) for _ in range(12)]


class TestCounts(unittest.TestCase):

    def test_weights(self):
        for query, store in acyclic_samples(80, 4, 5, 3, 8, 400):
            for tree in list(trees_of(query))[::5]:
                told = weights(query, store, tree)
                self.assertEqual(told, plain_weights(query, store, tree))
                self.assertIs(is_weights(query, store, tree, told), True)
                root = [at for at in range(len(tree)) if tree[at] == at][0]
                self.assertEqual(sum(told[root]), count(query, store))
                self.assertEqual(told[root], uses(query, store)[root])

    def test_is_weights_of_any_value(self):
        store = (((0, 0), (1, 0), (1, 1), (2, 2)), ((0, 5), (0, 7), (1, 6)))
        told = weights(PATH, store, (0, 0))
        self.assertEqual(told, ((2, 2, 1, 0), (1, 1, 1)))
        for value in wrong_values(told):
            same = type(value) is tuple and value == told and all(type(n) is int for row in value for n in row)
            self.assertIs(is_weights(PATH, store, (0, 0), value), same, value)
        self.assertIs(is_weights(PATH, ((), ()), (0, 0), ((), ())), True)
        self.assertIs(is_weights(PATH, ((), ()), (0, 0), ([], ())), False)

    def test_count_and_uses(self):
        for query, store in acyclic_samples(150, 4, 5, 3, 9, 410):
            found = plain_answers(query, store)
            self.assertEqual(count(query, store), len(found))
            told = uses(query, store)
            for at, table in enumerate(store):
                self.assertEqual(told[at], tuple(sum(part(row, query[1][at]) == there for row in found) for there in table))
                self.assertEqual(sum(told[at]), len(found))
                live = live_store(query, store)[at]
                self.assertEqual(tuple(row for row, use in zip(table, told[at]) if use), live)

    def test_far_more_answers_than_could_be_gone_through(self):
        self.assertEqual(count(EIGHT, HUNDREDS), 400 ** 8)
        self.assertEqual(uses(EIGHT, HUNDREDS)[3][7], 400 ** 7)
        self.assertEqual(count(LONG, (FULL,) * 7), 20 ** 8)
        told = weights(EIGHT, HUNDREDS, (0,) * 8)
        self.assertEqual(told[0][5], 400 ** 7)
        self.assertIs(is_weights(EIGHT, HUNDREDS, (0,) * 8, told), True)

    def test_cyclic(self):
        for query in list(small_queries())[::9] + list(some_queries(40, 5, 5, 420)) + [TRIANGLE]:
            if not has_ears(query):
                store, order = tuple(() for _ in query[1]), tuple(range(query[0]))
                for call in ((count, query, store), (uses, query, store), (smooth_order, query, ()),
                             (smooth_order, query, order), (dead_end, query, None), (kth, query, store, None, None),
                             (place_of, query, store, None, None), (dead_end, query, order)):
                    error = raised(*call)
                    self.assertIs(type(error), Cyclic)
                    self.assertEqual(error.knot, knot(query))


class TestOrders(unittest.TestCase):

    def test_trio(self):
        for query in list(small_queries())[::5] + list(some_queries(80, 5, 5, 430)):
            for order in sequences(range(query[0])):
                self.assertEqual(trio(query, order), plain_trio(query, order))
        self.assertEqual(trio(PATH, (0, 2, 1)), (0, 2, 1))
        self.assertEqual(trio(STAR, (1, 2, 0, 3)), (1, 2, 3))
        self.assertIsNone(trio(STAR, (3, 2, 0)))
        self.assertIsNone(trio(PATH, ()))

    def test_smooth_order(self):
        for query in acyclic_queries(120, 5, 5, 440):
            for wished in subsets(range(query[0])):
                self.assertEqual(smooth_order(query, wished), min(smooth_orders(query, wished)))
        self.assertEqual(smooth_order(STAR, (0, 1, 2, 3)), (0, 3, 1, 2))
        self.assertEqual(smooth_order(LONG, tuple(range(8))), tuple(range(8)))

    def test_dead_end(self):
        for query in acyclic_queries(80, 5, 5, 450):
            for order in list(permutations(range(query[0])))[::3]:
                found = dead_end(query, order)
                self.assertEqual(found is None, plain_trio(query, order) is None)
                if found is not None:
                    self.judged(query, order, *found)

    def judged(self, query, order, store, beginning):
        self.assertTrue(good_store(query, store))
        self.assertTrue(all(n in (0, 1) for table in store for row in table for n in row))
        self.assertEqual(live_store(query, store), store)
        self.assertTrue(type(beginning) is tuple and all(type(n) is int and n in (0, 1) for n in beginning))
        self.assertTrue(all(any(agrees(atom, row, order, beginning) for row in table)
                            for atom, table in zip(query[1], store)))
        self.assertFalse(any(turned(row, order)[:len(beginning)] == beginning for row in plain_answers(query, store)))

    def test_smooth_orders_have_no_dead_ends(self):
        for query in acyclic_queries(25, 4, 4, 460):
            for store in all_stores_of(query):
                found = plain_answers(query, store)
                for order in smooth_orders(query, range(query[0])):
                    for level in range(query[0] + 1):
                        starts = {turned(row, order)[:level] for row in found}
                        self.assertEqual(set(plain_beginnings(query, store, order, level)), starts)


class TestPlaces(unittest.TestCase):

    def test_places(self):
        for query, store in acyclic_samples(120, 4, 5, 3, 9, 470):
            orders = smooth_orders(query, range(query[0]))
            for order in orders[::max(1, len(orders) // 4)]:
                found = sorted(plain_answers(query, store), key=lambda row: turned(row, order))
                for place, answer in enumerate(found):
                    self.assertEqual(kth(query, store, order, place), answer)
                    self.assertEqual(place_of(query, store, order, answer), place)
                for place in (len(found), len(found) + 1, LAST):
                    with self.assertRaises(BadPlace):
                        kth(query, store, order, place)

    def test_by_hand(self):
        told = ((0, 0, 5), (0, 0, 7), (1, 0, 5), (1, 0, 7), (1, 1, 6))
        self.assertEqual(tuple(kth(PATH, BY_HAND, (1, 0, 2), k) for k in range(5)), told)
        self.assertEqual(count(PATH, BY_HAND), 5)

    def test_far_more_answers_than_could_be_gone_through(self):
        places = (0, 1, 399, 400, 20 ** 7 + 5, 12345678901, 20 ** 8 - 1)
        for order in ((0, 1, 2, 3, 4, 5, 6, 7), (3, 4, 2, 5, 1, 6, 0, 7)):
            for place in places:
                told = kth(LONG, (FULL,) * 7, order, place)
                self.assertEqual(sum(told[a] * 20 ** (7 - k) for k, a in enumerate(order)), place)
                self.assertEqual(place_of(LONG, (FULL,) * 7, order, told), place)
            with self.assertRaises(BadPlace):
                kth(LONG, (FULL,) * 7, order, 20 ** 8)
        order = (5, 7, 0, 1, 2, 4, 3, 6)
        told = kth(EIGHT, HUNDREDS, order, LAST)
        self.assertEqual(place_of(EIGHT, HUNDREDS, order, told), LAST)
        self.assertEqual(sum(told[a] * 400 ** (7 - k) for k, a in enumerate(order)), LAST)
        self.assertEqual(place_of(EIGHT, HUNDREDS, order, (399,) * 8), 400 ** 8 - 1)

    def test_great_numbers(self):
        store = (((0, LAST), (LAST, LAST)), ((LAST, 0), (LAST, LAST)))
        for place, answer in enumerate(((0, LAST, 0), (LAST, LAST, 0), (0, LAST, LAST), (LAST, LAST, LAST))):
            self.assertEqual(kth(PATH, store, (2, 1, 0), place), answer)
            self.assertEqual(place_of(PATH, store, (2, 1, 0), answer), place)

    def test_wrong_answers(self):
        for value in wrong_values((1, 0, 7)) + list(spoilt((0, 1, 6))):
            good = type(value) is tuple and len(value) == 3 and all(type(n) is int for n in value)
            if not good or value not in plain_answers(PATH, BY_HAND):
                with self.assertRaises(NoAnswer):
                    place_of(PATH, BY_HAND, (1, 0, 2), value)
        for place in every_kind():
            if not number(place) or place not in range(5):
                with self.assertRaises(BadPlace):
                    kth(PATH, BY_HAND, (1, 0, 2), place)
        empty = ((), ((0, 1),), ((1,),))
        self.assertIs(type(raised(kth, EQUAL, empty, (0, 1), 0)), BadPlace)
        self.assertIs(type(raised(place_of, EQUAL, empty, (0, 1), (0, 1))), NoAnswer)

    def test_not_smooth(self):
        for query in acyclic_queries(40, 4, 5, 480):
            for order in permutations(range(query[0])):
                found = plain_trio(query, order)
                if found is not None:
                    store = tuple(() for _ in query[1])
                    for wrong in (0, None, ()):
                        for function in (kth, place_of):
                            error = raised(function, query, store, order, wrong)
                            self.assertIs(type(error), NotSmooth)
                            self.assertEqual(error.trio, found)


class TestWrong(unittest.TestCase):

    def test_wrong(self):
        tree = (BadTree, lambda query, store, value: good_tree(query, value))
        sequence = (BadOrder, lambda query, order: good_sequence(query, order))
        order = (BadOrder, lambda *arguments: good_order(arguments[0], arguments[-1]))
        wished = (BadWished, lambda query, value: rising(value, 0, query[0] - 1))
        place = (BadPlace, lambda query, store, order, place: number(place) and place in range(5))
        check_guards(self, weights, (PATH, BY_HAND, (1, 1)), [QUERY, STORE, tree])
        check_guards(self, is_weights, (PATH, BY_HAND, (1, 1), ((1, 1, 1), (2, 2, 1))), [QUERY, STORE, tree])
        check_guards(self, weights, (TRIANGLE, TRIANGLE_STORE, (0, 0, 1)), [QUERY, STORE, tree])
        for function in (count, uses):
            check_guards(self, function, (PATH, BY_HAND), [QUERY, STORE])
        for told in ((), (2, 0), (1, 0, 2)):
            check_guards(self, trio, (PATH, told), [QUERY, sequence])
        for told in ((), (0, 2)):
            check_guards(self, smooth_order, (PATH, told), [QUERY, wished])
        check_guards(self, dead_end, (PATH, (0, 2, 1)), [QUERY, order])
        check_guards(self, kth, (PATH, BY_HAND, (1, 0, 2), 3), [QUERY, STORE, order])
        check_guards(self, kth, (ONE, (tuple((n,) for n in range(5)),), (0,), 3), [QUERY, STORE, order, place])
        check_guards(self, place_of, (PATH, BY_HAND, (1, 0, 2), (1, 1, 6)), [QUERY, STORE, order])

    def test_wished_comes_ahead_of_cyclic(self):
        for value in every_kind():
            error = raised(smooth_order, TRIANGLE, value)
            self.assertIs(type(error), Cyclic if rising(value, 0, 2) else BadWished)


if __name__ == "__main__":
    unittest.main()
