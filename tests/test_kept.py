import unittest
from itertools import product

from coverjoin.answers import answers
from coverjoin.errors import BadAbove, BadAnswer, BadAtom, BadAttribute, BadBits, BadPlace, BadRow, BadStore, BadValues
from coverjoin.errors import NotHierarchical, NotThere, There
from coverjoin.hierarchical import hierarchy
from coverjoin.kept import Kept, entries, extensions
from helper import LAST, NOT_HIERARCHICAL, ONE, PATH, QUERY, STORE, TRIANGLE, TRIANGLE_STORE, Dice, all_pairs_of
from helper import all_queries, answer_plainly, check_guards, check_judge, every_kind, good_query, hierarchical_queries
from helper import is_hierarchical, number, numbers, part, plain_answers, plain_sequence, plain_told_forest, plain_way
from helper import raised, some_store, subsets, wrong_values

HAND = (2, ((0,), (0, 1)))
WOOD = (5, ((0,), (0, 1), (0, 1, 2), (3, 4), (3,)))


def plain_extensions(query, store, attribute, values, limit):
    """By going through all choices of numbers below a limit for the attributes below."""
    forest = plain_told_forest(query)
    ways = [plain_way(forest, a) for a in range(query[0])]
    below = [a for a in range(query[0]) if attribute in ways[a] and a != attribute]
    ended = [k for k, atom in enumerate(query[1]) if any(set(ways[a]) == set(atom) for a in [attribute, *below])]
    many = 0
    for chosen in product(range(limit), repeat=len(below)):
        told = dict(zip(ways[attribute], values)) | dict(zip(below, chosen))
        many += all(tuple(told[a] for a in query[1][k]) in store[k] for k in ended)
    return many


def plain_entries(query, store, bits, limit):
    """The entries by plain counting, for numbers below a limit."""
    forest = plain_told_forest(query)
    told = {}
    for x in range(query[0]):
        way = plain_way(forest, x)
        for values in product(range(limit), repeat=len(way)):
            many = plain_extensions(query, store, x, values, limit)
            if many:
                for level in range(bits + 1):
                    key = (x, values[:-1], level, values[-1] >> level)
                    told[key] = told.get(key, 0) + many
    return {key: told[key] for key in sorted(told)}


def filled(query, store, bits):
    kept = Kept(query, bits)
    for k, table in enumerate(store):
        for row in table:
            kept.put(k, row)
    return kept


def in_sequence(query, found):
    order = plain_sequence(query)
    return sorted(found, key=lambda row: part(row, order))


class TestEntries(unittest.TestCase):

    def test_extensions(self):
        dice = Dice(911)
        for query in hierarchical_queries(60, 4, 4, 912):
            store = some_store(dice, query, 3, 7)
            for x in range(query[0]):
                for values in product(range(4), repeat=len(plain_way(plain_told_forest(query), x))):
                    self.assertEqual(extensions(query, store, x, values), plain_extensions(query, store, x, values, 3))

    def test_extensions_by_hand(self):
        store = (((2,), (3,)), ((2, 3), (2, 4), (5, 1)))
        self.assertEqual([extensions(HAND, store, 0, (n,)) for n in (2, 3, 5, LAST)], [2, 0, 0, 0])
        self.assertEqual([extensions(HAND, store, 1, told) for told in ((2, 3), (2, 5), (5, 1))], [1, 0, 1])
        # The way has the sequence of the forest, not that of the numbers.
        self.assertEqual(extensions(PATH, (((7, 1),), ((1, 9),)), 0, (1, 7)), 1)
        self.assertEqual(extensions(PATH, (((7, 1),), ((1, 9),)), 0, (7, 1)), 0)

    def test_entries(self):
        dice = Dice(913)
        for query in hierarchical_queries(50, 4, 4, 914):
            bits = 2 + dice.below(2)
            store = some_store(dice, query, 4, 8)
            told = entries(query, store, bits)
            plain = plain_entries(query, store, bits, 4)
            self.assertEqual(told, plain)
            self.assertEqual(list(told), sorted(told))

    def test_entries_of_all_small_stores(self):
        for query in ((1, ((0,), (0,))), HAND, (2, ((0,), (1,))), (2, ((0, 1), (1,)))):
            rows = [[row for row in product(range(2), repeat=len(atom))] for atom in query[1]]
            for store in product(*[subsets(told) for told in rows]):
                self.assertEqual(entries(query, store, 1), plain_entries(query, store, 1, 2))
                self.assertEqual(filled(query, store, 1).entries(), plain_entries(query, store, 1, 2))

    def test_bits_1_and_59(self):
        self.assertEqual(entries(ONE, (((0,), (1,)),), 1), {(0, (), 0, 0): 1, (0, (), 0, 1): 1, (0, (), 1, 0): 2})
        top = 2 ** 59 - 1
        told = entries(ONE, (((top,),),), 59)
        self.assertEqual(told, {(0, (), level, top >> level): 1 for level in range(60)})
        self.assertEqual(list(told), sorted(told))

    def test_no_rows(self):
        self.assertEqual(entries(WOOD, ((),) * 5, 3), {})
        self.assertEqual(Kept(WOOD, 3).entries(), {})

    def test_what_is_returned_may_be_changed(self):
        kept = filled(HAND, (((2,),), ((2, 3),)), 2)
        before = dict(kept.entries())
        kept.entries().clear()
        kept.answers().clear()
        self.assertEqual((kept.entries(), kept.answers(), kept.count()), (before, [(2, 3)], 1))
        self.assertIsNot(kept.answers(), kept.answers())


class TestKept(unittest.TestCase):

    def test_by_hand(self):
        kept = Kept(HAND, 2)
        self.assertEqual((kept.query, kept.bits), (HAND, 2))
        self.assertEqual(kept.put(1, (2, 3)), (((1, (2,), 0, 3), 0, 1), ((1, (2,), 1, 1), 0, 1), ((1, (2,), 2, 0), 0, 1)))
        self.assertEqual(kept.count(), 0)
        self.assertEqual(kept.put(0, (2,)), (((0, (), 0, 2), 0, 1), ((0, (), 1, 1), 0, 1), ((0, (), 2, 0), 0, 1)))
        self.assertEqual((kept.count(), kept.kth(0)), (1, (2, 3)))
        self.assertEqual(kept.store(), (((2,),), ((2, 3),)))
        self.assertEqual(kept.take(1, (2, 3)), (((0, (), 0, 2), 1, 0), ((0, (), 1, 1), 1, 0), ((0, (), 2, 0), 1, 0),
                                               ((1, (2,), 0, 3), 1, 0), ((1, (2,), 1, 1), 1, 0), ((1, (2,), 2, 0), 1, 0)))
        self.assertEqual(kept.entries(), {})

    def check_change(self, query, kept, at, row, told, before):
        """That just the entries that a row hangs on change, and that this is what is told."""
        after = kept.entries()
        plain = sorted((key, before.get(key, 0), after.get(key, 0)) for key in before.keys() | after.keys()
                       if before.get(key, 0) != after.get(key, 0))
        self.assertEqual(told, tuple(plain))
        self.assertLessEqual(len(told), (kept.bits + 1) * len(query[1][at]))
        forest = plain_told_forest(query)
        for (x, above, level, prefix), _, _ in told:
            values = [row[query[1][at].index(a)] for a in plain_way(forest, x)]
            self.assertEqual((above, prefix), (tuple(values[:-1]), values[-1] >> level))

    def check_state(self, query, kept, store):
        self.assertEqual(kept.store(), store)
        found = in_sequence(query, plain_answers(query, store))
        self.assertEqual(kept.count(), len(found))
        self.assertEqual(kept.answers(), found)
        self.assertEqual([kept.kth(k) for k in range(len(found))], found)
        self.assertIs(type(raised(kept.kth, len(found))), BadPlace)

    def check_points(self, query, kept, store, limit):
        order = plain_sequence(query)
        found = in_sequence(query, plain_answers(query, store))
        for point in product(range(limit), repeat=query[0]):
            ahead = [row for row in found if part(row, order) < part(point, order)]
            behind = [row for row in found if part(row, order) > part(point, order)]
            self.assertEqual(kept.ahead(point), len(ahead))
            self.assertEqual(kept.following(point), behind[0] if behind else None)
            self.assertEqual(kept.place(point), len(ahead) if point in found else None)
            self.assertIs(kept.is_answer(point), point in found)

    def test_puts_and_takes(self):
        dice = Dice(915)
        for query in hierarchical_queries(40, 4, 4, 916):
            bits = 2
            kept = Kept(query, bits)
            tables = [set() for _ in query[1]]
            for step in range(25):
                at = dice.below(len(tables))
                row = tuple(dice.below(3) for _ in query[1][at])
                before = kept.entries()
                if row in tables[at]:
                    self.assertIs(type(raised(kept.put, at, row)), There)
                    self.assertEqual(kept.entries(), before)
                    told = kept.take(at, row)
                    tables[at].remove(row)
                else:
                    self.assertIs(type(raised(kept.take, at, row)), NotThere)
                    self.assertEqual(kept.entries(), before)
                    told = kept.put(at, row)
                    tables[at].add(row)
                self.check_change(query, kept, at, row, told, before)
                store = tuple(tuple(sorted(table)) for table in tables)
                self.check_state(query, kept, store)
                if step % 8 == 7:
                    self.assertEqual(kept.entries(), entries(query, store, bits))
                    self.assertEqual(list(kept.entries()), sorted(kept.entries()))
                    if query[0] < 4:
                        self.check_points(query, kept, store, 4)

    def test_one_store_on_several_ways(self):
        dice = Dice(917)
        for query in hierarchical_queries(25, 4, 4, 918):
            store = some_store(dice, query, 4, 8)
            rows = [(at, row) for at, table in enumerate(store) for row in table]
            one = filled(query, store, 2)
            other = Kept(query, 2)
            for at, row in rows[::-1]:
                other.put(at, row)
            third = filled(query, some_store(dice, query, 4, 8), 2)
            for at in range(len(store)):
                for row in set(third.store()[at]) - set(store[at]):
                    third.take(at, row)
                for row in set(store[at]) - set(third.store()[at]):
                    third.put(at, row)
            for kept in (one, other, third):
                self.assertEqual(kept.entries(), entries(query, store, 2))
                self.check_state(query, kept, store)

    def test_all_changes_of_small_stores(self):
        for query in all_queries(2, 2):
            if is_hierarchical(query):
                rows = [(at, row) for at, atom in enumerate(query[1]) for row in product(range(2), repeat=len(atom))]
                for bits in range(2 ** len(rows)):
                    kept = Kept(query, 1)
                    for k, (at, row) in enumerate(rows):
                        if bits >> k & 1:
                            kept.put(at, row)
                    store = kept.store()
                    self.check_state(query, kept, store)
                    self.check_points(query, kept, store, 2)

    def test_a_store_with_one_answer(self):
        for n in (0, 1, 2 ** 59 - 1):
            kept = filled(WOOD, (((n,),), ((n, n),), ((n, n, n),), ((n, n),), ((n,),)), 59)
            point = (n,) * 5
            self.assertEqual((kept.count(), kept.kth(0), kept.place(point), kept.ahead(point)), (1, point, 0, 0))
            self.assertIsNone(kept.following(point))
            self.assertEqual(kept.answers(), [point])
            if n:
                less = (n,) * 4 + (n - 1,)
                self.assertEqual((kept.ahead(less), kept.following(less), kept.place(less)), (0, point, None))
                self.assertEqual(kept.ahead((2 ** 59 - 1,) * 5), int(n < 2 ** 59 - 1))

    def test_no_answer(self):
        kept = filled(HAND, (((1,),), ((2, 3),)), 5)
        self.assertEqual((kept.count(), kept.answers(), kept.ahead((31, 31)), kept.following((0, 0)), kept.place((1, 3))),
                         (0, [], 0, None, None))
        for place in (0, 1, -1, None):
            self.assertIs(type(raised(kept.kth, place)), BadPlace)

    def test_great_numbers(self):
        top = 2 ** 59 - 1
        rows = [0, 1, 2, 2 ** 30, 2 ** 58 - 1, 2 ** 58, top - 1, top]
        kept = filled((2, ((0,), (1,))), (tuple((n,) for n in rows), tuple((n,) for n in rows[::2])), 59)
        found = sorted(product(rows, rows[::2]))
        self.assertEqual([kept.kth(k) for k in range(len(found))], found)
        self.assertEqual([kept.place(row) for row in found], list(range(len(found))))
        self.assertEqual(kept.ahead((2 ** 58, top)), 6 * 4)
        self.assertEqual(kept.following((2 ** 58, top)), (top - 1, 0))

    def test_far_more_answers_than_could_be_gone_through(self):
        query = (8, tuple((a,) for a in range(8)))
        kept = Kept(query, 9)
        for at in range(8):
            for n in range(100):
                kept.put(at, (3 * n,))
        self.assertEqual(kept.count(), 100 ** 8)
        for place in (0, 1, 99, 100, 10 ** 15 + 7 * 10 ** 8 + 31, 100 ** 8 - 1):
            point = tuple(3 * (place // 100 ** (7 - a) % 100) for a in range(8))
            self.assertEqual(kept.kth(place), point)
            self.assertEqual((kept.place(point), kept.ahead(point)), (place, place))
            self.assertEqual(kept.ahead(point[:-1] + (point[-1] + 1,)), place + 1)
        self.assertIs(type(raised(kept.kth, 100 ** 8)), BadPlace)
        told = kept.take(7, (3,))
        self.assertEqual(len(told), 10)
        self.assertEqual(kept.count(), 100 ** 7 * 99)

    def test_many_rows(self):
        dice = Dice(919)
        store = some_store(dice, (5, WOOD[1]), 6, 60)
        kept = filled(WOOD, store, 3)
        found = in_sequence(WOOD, answers(WOOD, store))
        self.assertEqual(kept.answers(), found)
        self.assertEqual([kept.kth(k) for k in range(0, len(found), 7)], found[::7])

    def test_what_is_passed_is_not_kept(self):
        query, row = (2, ((0,), (0, 1))), (2, 3)
        kept = Kept(query, 2)
        kept.put(1, row)
        kept.put(0, (2,))
        self.assertEqual(kept.store(), (((2,),), ((2, 3),)))

    def test_equal_to_nothing_else(self):
        for value in every_kind() + [HAND]:
            self.assertFalse(Kept(HAND, 2) == value)


class TestWrong(unittest.TestCase):

    def hierarchical(self, query):
        return good_query(query) and is_hierarchical(query)

    def test_not_hierarchical_comes_behind_bad_query(self):
        for query in (NOT_HIERARCHICAL, TRIANGLE):
            pair = min(all_pairs_of(query))
            for call in ((extensions, query, None, None, None), (entries, query, None, None), (Kept, query, None),
                         (Kept, query, 5), (entries, query, TRIANGLE_STORE, 0)):
                error = raised(*call)
                self.assertEqual((type(error), error.pair), (NotHierarchical, pair))
                self.assertEqual(hierarchy(query), ("pair",) + pair)

    def test_wrong(self):
        query_guard = QUERY
        attribute = (BadAttribute, lambda query, store, x: number(x) and x in range(query[0]))

        def above(query, store, x, values):
            return numbers(values, len(plain_way(plain_told_forest(query), x)), 0)
        store = (((2,),), ((2, 3),))
        for x, values in ((0, (2,)), (1, (2, 3))):
            check_guards(self, extensions, (HAND, store, x, values), [query_guard, STORE, attribute, (BadAbove, above)])
        bits = (BadBits, lambda *told: number(told[-1]) and 1 <= told[-1] <= 59)
        for good in (2, 59):
            check_guards(self, entries, (HAND, store, good), [query_guard, STORE, bits])
            check_guards(self, Kept, (HAND, good), [query_guard, bits])

    def test_numbers_that_are_too_great(self):
        for bits in (1, 2, 3, 58, 59):
            for n in (2 ** bits, 2 ** bits + 1, LAST):
                self.assertIs(type(raised(entries, HAND, (((n,),), ()), bits)), BadValues)
                self.assertIs(type(raised(entries, HAND, ((), ((0, n),)), bits)), BadValues)
            self.assertIsNone(raised(entries, HAND, (((2 ** bits - 1,),), ((0, 2 ** bits - 1),)), bits))
        # Bits come ahead of values, the store ahead of both.
        self.assertIs(type(raised(entries, HAND, (((LAST,),), ()), 60)), BadBits)
        self.assertIs(type(raised(entries, HAND, (((LAST + 1,),), ()), 60)), BadStore)

    def test_puts_and_takes(self):
        kept = filled(WOOD, (((0,), (1,)), ((0, 1), (0, 2)), ((0, 1, 3),), ((1, 2),), ((1,),)), 2)
        before = (kept.store(), kept.entries(), kept.count())
        for function, row, error in ((kept.put, (0, 1), There), (kept.take, (0, 3), NotThere)):
            self.assertIs(type(raised(function, 1, row)), error)
            for bad in wrong_values(1):
                if not (number(bad) and bad in range(5)):
                    for told in (row, None, "row"):
                        self.assertIs(type(raised(function, bad, told)), BadAtom, bad)
            for bad in wrong_values(row) + [(0, 4), (4, 1), (0, LAST)]:
                if not numbers(bad, 2, 0, 3):
                    self.assertIs(type(raised(function, 1, bad)), BadRow, bad)
        self.assertEqual((kept.store(), kept.entries(), kept.count()), before)

    def test_answers_and_places(self):
        kept = filled(HAND, (((0,), (1,)), ((0, 1), (0, 2), (1, 3))), 2)
        for function in (kept.place, kept.ahead, kept.following):
            for bad in wrong_values((0, 2)) + [(0, 4), (4, 0), (0, LAST)]:
                if not numbers(bad, 2, 0, 3):
                    self.assertIs(type(raised(function, bad)), BadAnswer, bad)
        for bad in wrong_values(2):
            if not (number(bad) and bad in range(3)):
                self.assertIs(type(raised(kept.kth, bad)), BadPlace, bad)
        store = kept.store()
        check_judge(self, kept.is_answer, lambda value: numbers(value, 2, 0) and answer_plainly(HAND, store, value),
                    [(0, 1), (1, 3), (0, 3), (0, 4), (0, LAST)])


if __name__ == "__main__":
    unittest.main()
