import unittest
from fractions import Fraction
from itertools import product

from coverjoin.answers import answers
from coverjoin.bounds import are_powers, beyond_store, filled_store, floor_store, full_store, is_least_cover
from coverjoin.bounds import least_cover, tight_store, top_powers
from coverjoin.checks import is_store
from coverjoin.covers import is_corner, least_sum, sum_cover, sum_weights
from coverjoin.errors import BadCounts, BadExponents, BadNumbers, BadPowers, BadRoot, BadShares, BadWeights, TooMany
from coverjoin.shares import compared_shares, is_within, least_terms, most_within
from coverjoin.tables import sizes
from helper import EQUAL, LAST, LINES, NAMED, ONE, PATH, QUERY, STORE, TRIANGLE, TRIANGLE_STORE, WIDE, Dice, candidates
from helper import check_guards, check_judge, comes_to, good_cover, good_shares, number, numbers, powers_of, raised
from helper import small_queries, some_queries, some_store, wrong_values
from test_covers import EXPONENTS, good_weights, total

HALVES = ((1, 1, 1), 2)
TOP = (((1, 1, -1), (1, -1, 1), (-1, 1, 1)), 2)
COUNTS = (BadCounts, lambda query, counts: numbers(counts, len(query[1]), 1))
ROOT = (BadRoot, lambda *all_of: number(all_of[-1]) and all_of[-1] >= 1)


def at_least(counts, exponents):
    """Whether the product of the powers, also with negative exponents, is at least 1: plainly."""
    over = powers_of(counts, [max(0, e) for e in exponents])
    return over >= powers_of(counts, [max(0, -e) for e in exponents])


def added(rows, many):
    return [sum(row[k] for row in rows) for k in range(many)]


def many_at(query, store, attribute):
    """How many numbers the first table with the attribute has there."""
    k = [attribute in atom for atom in query[1]].index(True)
    return len({row[query[1][k].index(attribute)] for row in store[k]})


def good_powers(query, counts, value):
    """Whether any value is fitting powers, by plain multiplying."""
    if type(value) is not tuple or len(value) != 2 or not number(value[1]) or value[1] not in range(1, 1000):
        return False
    rows, d = value
    if type(rows) is not tuple or len(rows) != query[0]:
        return False
    if not all(numbers(row, len(query[1]), -999, 999) for row in rows):
        return False
    if not all(at_least(counts, row) for row in rows):
        return False
    for k, atom in enumerate(query[1]):
        exponents = [-e for e in added([rows[a] for a in atom], len(counts))]
        exponents[k] += d
        if not at_least(counts, exponents):
            return False
    return True


def good_least(query, counts, cover, powers):
    if not good_cover(query, cover) or max(cover[0] + cover[1:]) > 999 or not good_powers(query, counts, powers):
        return False
    sums = added(powers[0], len(counts))
    exponents = [s * cover[1] - n * powers[1] for s, n in zip(sums, cover[0])]
    return at_least(counts, exponents) and at_least(counts, [-e for e in exponents])


def counts_of(query, dice):
    """Some counts: all alike, small ones, and such that products are nearly alike."""
    atoms = len(query[1])
    yield (1,) * atoms
    yield (LAST,) * atoms
    yield tuple(1 + dice.below(9) for _ in range(atoms))
    yield tuple(dice.one_of((1, 2, 4, 8, 64, 400, 399)) for _ in range(atoms))
    yield tuple(LAST - dice.below(4) for _ in range(atoms))
    yield tuple(dice.one_of((LAST, 10 ** 9 - dice.below(3), 10 ** 6, 1 + dice.below(10 ** 17))) for _ in range(atoms))


class TestLeastCover(unittest.TestCase):

    def judged(self, query, counts):
        cover, powers = least_cover(query, counts), top_powers(query, counts)
        self.assertTrue(good_cover(query, cover))
        self.assertTrue(max(cover[0]) <= 999 and cover[1] <= 999)
        self.assertEqual(least_terms(query, cover), cover)
        self.assertTrue(good_powers(query, counts, powers))
        self.assertTrue(good_least(query, counts, cover, powers))
        self.assertIs(are_powers(query, counts, powers), True)
        self.assertIs(is_least_cover(query, counts, cover, powers), True)
        return cover

    def test_triangle(self):
        self.assertEqual(self.judged(TRIANGLE, (3, 3, 3)), HALVES)
        self.assertEqual(self.judged(TRIANGLE, (2, 2, 5)), ((1, 1, 0), 1))
        self.assertEqual(self.judged(TRIANGLE, (10 ** 9, 10 ** 9, LAST)), HALVES)
        self.assertEqual(self.judged(TRIANGLE, (10 ** 9 - 1, 10 ** 9, LAST)), ((1, 1, 0), 1))

    def test_small_queries_by_all_candidates(self):
        dice = Dice(3)
        for query in list(small_queries())[::2] + [TRIANGLE, EQUAL]:
            covers = [shares for shares in candidates(query, 2) if good_cover(query, shares)]
            for counts in counts_of(query, dice):
                least = self.judged(query, counts)
                for cover in covers:
                    self.assertLessEqual(compared_shares(query, counts, least, cover), 0)

    def test_made_queries(self):
        dice = Dice(4)
        for query in list(NAMED) + some_queries(60, 8, 8, 5):
            for counts in counts_of(query, dice):
                self.judged(query, counts)

    def test_exponents_are_counts_that_are_powers_of_two(self):
        dice = Dice(5)
        for query in some_queries(80, 8, 8, 6):
            exponents = tuple(dice.below(59) for _ in query[1])
            cover = least_cover(query, tuple(2 ** e for e in exponents))
            self.assertEqual(total(cover, exponents), Fraction(*least_sum(query, exponents)))

    def test_least_covers_are_corners_here(self):
        self.assertIs(is_corner(WIDE, least_cover(WIDE, (LAST,) * 8)), True)
        self.assertEqual(least_cover(LINES, (LAST,) * 7), ((1,) * 7, 3))

    def test_wrong(self):
        for function in (least_cover, top_powers):
            check_guards(self, function, (TRIANGLE, (3, 1, LAST)), [QUERY, COUNTS])
            self.assertIs(type(raised(function, TRIANGLE, (3, 0, 3))), BadCounts)


class TestArePowers(unittest.TestCase):

    def test_any_value(self):
        for counts, powers in (((3, 3, 3), TOP), ((4, 5, 6), TOP), ((1, 2, 3), (((0, 0, 0),) * 3, 999)),
                               ((2, 2, 2), (((1, 0, 0), (0, 0, 0), (0, 1, 0)), 1))):
            check_judge(self, lambda value: are_powers(TRIANGLE, counts, value),
                        lambda value: good_powers(TRIANGLE, counts, value), [powers])

    def test_all_small_rows(self):
        rows = list(product(range(-2, 3), repeat=2))
        query = (2, ((0,), (0, 1)))
        for counts in ((1, 1), (2, 3), (2, 4), (9, 3), (LAST, LAST - 1)):
            for one, other in product(rows, rows):
                for d in (1, 2):
                    value = ((one, other), d)
                    self.assertIs(are_powers(query, counts, value), good_powers(query, counts, value))

    def test_edges(self):
        query = (1, ((0,), (0,)))
        self.assertIs(are_powers(query, (LAST, LAST), (((999, -999),), 1)), True)
        self.assertIs(are_powers(query, (LAST, LAST - 1), (((999, -999),), 1)), True)
        self.assertIs(are_powers(query, (LAST - 1, LAST), (((999, -999),), 1)), False)
        self.assertIs(are_powers(query, (LAST, LAST), (((1000, -999),), 1)), False)
        self.assertIs(are_powers(query, (LAST, LAST), (((999, -1000),), 1)), False)
        self.assertIs(are_powers(query, (LAST, LAST), (((500, 499),), 999)), True)
        self.assertIs(are_powers(query, (LAST, LAST - 1), (((500, 499),), 999)), False)
        self.assertIs(are_powers(query, (1, 1), (((0, 0),), 1000)), False)
        self.assertIs(are_powers(query, (1, 1), (((0, 0),), 0)), False)

    def test_wrong(self):
        check_guards(self, are_powers, (TRIANGLE, (3, 3, 3), TOP), [QUERY, COUNTS])


class TestIsLeastCover(unittest.TestCase):

    def test_any_values(self):
        for counts in ((3, 3, 3), (2, 3, 4), (1, 1, 1)):
            for value in wrong_values(HALVES):
                self.assertIs(is_least_cover(TRIANGLE, counts, value, TOP), good_least(TRIANGLE, counts, value, TOP))
            for value in wrong_values(TOP):
                self.assertIs(is_least_cover(TRIANGLE, counts, HALVES, value),
                              good_least(TRIANGLE, counts, HALVES, value))

    def test_edges(self):
        self.assertIs(is_least_cover(ONE, (5,), ((999,), 999), (((999,),), 999)), True)
        self.assertIs(is_least_cover(ONE, (5,), ((1000,), 1000), (((999,),), 999)), False)
        self.assertIs(is_least_cover(ONE, (1,), ((999,), 1), (((999,),), 999)), True)
        self.assertIs(is_least_cover(ONE, (1,), ((1000,), 1), (((999,),), 999)), False)
        self.assertIs(is_least_cover(ONE, (5,), ((999,), 998), (((998,),), 998)), False)

    def test_wrong(self):
        for cover, powers in ((HALVES, TOP), (None, True), ([], {})):
            check_guards(self, is_least_cover, (TRIANGLE, (3, 3, 3), cover, powers), [QUERY, COUNTS])


class TestBeyondStore(unittest.TestCase):

    def test_all_candidates(self):
        for query in list(small_queries())[::3] + [TRIANGLE, EQUAL, PATH]:
            for shares in candidates(query, 2):
                store = beyond_store(query, shares)
                if good_cover(query, shares):
                    self.assertIsNone(store)
                else:
                    self.assertTrue(is_store(query, store))
                    lacking = min(a for a in range(query[0]) if
                                  sum(n for n, atom in zip(shares[0], query[1]) if a in atom) < shares[1])
                    two = [(0,) * query[0], tuple(int(a == lacking) for a in range(query[0]))]
                    self.assertEqual(answers(query, store), tuple(two))
                    self.assertFalse(comes_to(sizes(query, store), shares, 2))
                    self.assertIs(is_within(query, sizes(query, store), shares, 2), False)

    def test_great_shares(self):
        self.assertIsNone(beyond_store(ONE, ((LAST,), LAST)))
        self.assertEqual(beyond_store(ONE, ((LAST - 1,), LAST)), (((0,), (1,)),))

    def test_wrong(self):
        check_guards(self, beyond_store, (TRIANGLE, ((1, 1, 0), 2)),
                     [QUERY, (BadShares, lambda query, shares: good_shares(query, shares))])


class TestFullStore(unittest.TestCase):

    def test_stores(self):
        self.assertEqual(full_store(PATH, (1, 2, 1)), (((0, 0), (0, 1)), ((0, 0), (1, 0))))
        for query in small_queries():
            for told in product((1, 2, 3), repeat=query[0]):
                store = full_store(query, told)
                self.assertTrue(is_store(query, store))
                self.assertEqual(store, tuple(tuple(product(*[range(told[a]) for a in atom])) for atom in query[1]))
                self.assertEqual(answers(query, store), tuple(product(*[range(n) for n in told])))

    def test_too_many(self):
        self.assertEqual(sizes(PATH, full_store(PATH, (20, 20, 20))), (400, 400))
        self.assertEqual(sizes(PATH, full_store(PATH, (1, 1, 400))), (1, 400))
        for told in ((20, 20, 21), (401, 1, 1), (1, 1, 401), (LAST, LAST, LAST)):
            self.assertEqual(raised(full_store, PATH, told).most, 400)
        self.assertIs(type(raised(full_store, PATH, (401, 0, 1))), BadNumbers)

    def test_wrong(self):
        check_guards(self, full_store, (TRIANGLE, (2, 1, 3)),
                     [QUERY, (BadNumbers, lambda query, told: numbers(told, query[0], 1))])


class TestTightStore(unittest.TestCase):

    def test_example_by_hand(self):
        store = tight_store(TRIANGLE, (1, 1, 1), HALVES, 2)
        self.assertEqual(sizes(TRIANGLE, store), (4, 4, 4))
        self.assertEqual(len(answers(TRIANGLE, store)), 8)

    def test_answers_come_to_the_bound(self):
        dice = Dice(8)
        for query in list(small_queries())[::3] + some_queries(60, 4, 4, 9):
            for exponents in ((1,) * len(query[1]), tuple(dice.below(3) for _ in query[1])):
                weights, cover = sum_weights(query, exponents), sum_cover(query, exponents)
                for root in (1, 2, 3):
                    counts = tuple(root ** (weights[1] * e) for e in exponents)
                    try:
                        store = tight_store(query, exponents, weights, root)
                    except TooMany as error:
                        self.assertEqual(error.most, 400)
                        self.assertTrue(any(root ** sum(weights[0][a] for a in atom) > 400 for atom in query[1]))
                        continue
                    self.assertEqual(store, full_store(query, tuple(root ** n for n in weights[0])))
                    self.assertTrue(all(n <= most for n, most in zip(sizes(query, store), counts)))
                    if powers_of([root], [sum(weights[0])]) <= 20000:
                        many = len(answers(query, store))
                        self.assertEqual(many ** cover[1], powers_of(counts, cover[0]))
                        self.assertEqual(most_within(query, counts, cover), many)

    def test_too_many(self):
        self.assertEqual(sizes(ONE, tight_store(ONE, (1,), ((1,), 1), 400)), (400,))
        self.assertEqual(raised(tight_store, ONE, (1,), ((1,), 1), 401).most, 400)
        self.assertEqual(sizes(ONE, tight_store(ONE, (8,), ((8,), 1), 2)), (256,))
        self.assertEqual(raised(tight_store, ONE, (9,), ((9,), 1), 2).most, 400)
        self.assertEqual(tight_store(ONE, (1,), ((LAST,), LAST), 1), (((0,),),))
        self.assertEqual(raised(tight_store, ONE, (1,), ((LAST,), LAST), 2).most, 400)
        self.assertEqual(raised(tight_store, ONE, (99,), ((LAST,), LAST), LAST).most, 400)
        self.assertEqual(tight_store(ONE, (1,), ((0,), LAST), LAST), (((0,),),))

    def test_wrong(self):
        weights = (BadWeights, good_weights)
        check_guards(self, tight_store, (TRIANGLE, (1, 1, 1), HALVES, 2), [QUERY, EXPONENTS, weights, ROOT])
        self.assertIs(type(raised(tight_store, ONE, (1,), ((2,), 1), 0)), BadWeights)
        self.assertIs(type(raised(tight_store, ONE, (100,), ((2,), 1), 0)), BadExponents)
        self.assertIs(type(raised(tight_store, ONE, (99,), ((99,), 1), 0)), BadRoot)


class TestFloorStore(unittest.TestCase):

    def test_within_the_factor(self):
        dice = Dice(10)
        for query in list(small_queries())[::3] + some_queries(40, 5, 5, 10):
            for counts in ((1,) * len(query[1]), tuple(1 + dice.below(30) for _ in query[1]),
                           tuple(1 + dice.below(3) for _ in query[1])):
                rows, d = top_powers(query, counts)
                store = floor_store(query, counts, (rows, d))
                self.assertTrue(is_store(query, store))
                self.assertTrue(all(n <= most for n, most in zip(sizes(query, store), counts)))
                # As many numbers as the floor of the measure: n ** d at most, (n + 1) ** d above.
                floors = [many_at(query, store, a) for a in range(query[0])]
                for a in range(query[0]):
                    over = powers_of(counts, [max(0, e) for e in rows[a]])
                    under = powers_of(counts, [max(0, -e) for e in rows[a]])
                    self.assertTrue(floors[a] ** d * under <= over < (floors[a] + 1) ** d * under)
                self.assertEqual(store, full_store(query, tuple(floors)))
                most, many = added(rows, len(counts)), powers_of(floors, [1] * len(floors))
                over = powers_of(counts, [max(0, e) for e in most])
                under = powers_of(counts, [max(0, -e) for e in most])
                self.assertGreater((many * 2 ** query[0]) ** d * under, over)

    def test_triangle(self):
        self.assertEqual(sizes(TRIANGLE, floor_store(TRIANGLE, (9, 9, 9), TOP)), (9, 9, 9))
        self.assertEqual(sizes(TRIANGLE, floor_store(TRIANGLE, (8, 8, 8), TOP)), (4, 4, 4))
        self.assertEqual(floor_store(TRIANGLE, (400, 400, 440), TOP), full_store(TRIANGLE, (19, 20, 20)))

    def test_great_powers(self):
        query = (1, ((0,), (0,)))
        self.assertEqual(raised(floor_store, query, (LAST, LAST), (((500, 499),), 999)).most, 400)
        self.assertEqual(sizes(query, floor_store(query, (LAST, LAST), (((999, -998),), 999))), (1, 1))
        self.assertEqual(sizes(ONE, floor_store(ONE, (400,), (((999,),), 999))), (400,))
        self.assertEqual(raised(floor_store, ONE, (401,), (((999,),), 999)).most, 400)

    def test_wrong(self):
        powers = (BadPowers, good_powers)
        check_guards(self, floor_store, (TRIANGLE, (9, 9, 9), TOP), [QUERY, COUNTS, powers])
        self.assertIs(type(raised(floor_store, TRIANGLE, (9, 0, 9), TOP)), BadCounts)
        self.assertIs(type(raised(floor_store, TRIANGLE, (9, 9, 82), TOP)), BadPowers)


class TestFilledStore(unittest.TestCase):

    def test_rows(self):
        store = filled_store(TRIANGLE, TRIANGLE_STORE, (3, 4, 5))
        self.assertEqual(store, (TRIANGLE_STORE[0], TRIANGLE_STORE[1] + ((2, 2),), ((0, 0), (1, 0), (2, 2), (3, 3), (4, 4))))
        self.assertEqual(filled_store(ONE, (((1,), (3,)),), (5,)), (((0,), (1,), (2,), (3,), (4,)),))
        self.assertEqual(filled_store(ONE, ((),), (0,)), ((),))
        self.assertEqual(filled_store(EQUAL, ((), ((0, 2),), ()), (2, 2, 1)),
                         (((1, 1), (3, 3)), ((0, 2), (1, 1)), ((1,),)))

    def test_sizes_and_answers(self):
        dice = Dice(12)
        for query in some_queries(80, 4, 4, 11):
            store = some_store(dice, query, 4, 6)
            counts = tuple(n + dice.below(4) for n in sizes(query, store))
            filled = filled_store(query, store, counts)
            self.assertTrue(is_store(query, filled))
            self.assertEqual(sizes(query, filled), counts)
            self.assertLessEqual(set(answers(query, store)), set(answers(query, filled)))
            used = {n for table in store for row in table for n in row}
            free = [n for n in range(50) if n not in used]
            for atom, one, other in zip(query[1], store, filled):
                more = {(n,) * len(atom) for n in free[:len(other) - len(one)]}
                self.assertEqual(set(other), set(one) | more)

    def test_too_many(self):
        self.assertEqual(sizes(ONE, filled_store(ONE, ((),), (400,))), (400,))
        self.assertEqual(raised(filled_store, ONE, ((),), (401,)).most, 400)
        self.assertEqual(raised(filled_store, ONE, (((0,),),), (LAST,)).most, 400)
        self.assertIs(type(raised(filled_store, PATH, ((), ((0, 0),)), (401, 0))), BadCounts)

    def test_wrong(self):
        counts = (BadCounts, lambda query, store, told: numbers(told, len(query[1]), 0) and
                  all(len(table) <= n for table, n in zip(store, told)))
        check_guards(self, filled_store, (TRIANGLE, TRIANGLE_STORE, (3, 4, 5)), [QUERY, STORE, counts])


if __name__ == "__main__":
    unittest.main()
