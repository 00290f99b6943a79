import unittest
from math import gcd

from coverjoin.answers import answers
from coverjoin.errors import BadCounts, BadNumber, BadShares, BadWanted, TooMany
from coverjoin.shares import compared_shares, is_cover, is_shares, is_within, least_terms, most_within
from coverjoin.tables import sizes
from helper import EQUAL, LAST, ONE, PATH, QUERY, RING, TRIANGLE, Dice, candidates, check_guards, check_judge, comes_to
from helper import good_cover, good_shares, good_wanted, number, numbers, part, powers_of, raised, some_queries
from helper import some_store, subsets

HALVES = ((1, 1, 1), 2)
COUNTS = (BadCounts, lambda query, counts: numbers(counts, len(query[1]), 0))
SHARES = (BadShares, lambda *all_of: good_shares(all_of[0], all_of[-1]))
NUMBER = (BadNumber, lambda query, counts, shares, value: number(value) and value >= 0)
WANTED = (BadWanted, lambda query, value, wanted: good_wanted(query, wanted))


def samples(many, seed, counts=5, shares=4):
    """Queries with counts and shares by a fixed rule, 0 among both."""
    dice = Dice(seed)
    for query in some_queries(many, 4, 4, seed):
        atoms = len(query[1])
        told = tuple(dice.below(counts) for _ in range(atoms))
        yield query, told, (tuple(dice.below(shares) for _ in range(atoms)), 1 + dice.below(shares))


class TestIsShares(unittest.TestCase):

    def test_any_value(self):
        for query, shares in ((TRIANGLE, HALVES), (ONE, ((0,), 1)), (EQUAL, ((LAST, 0, 3), LAST))):
            check_judge(self, lambda value: is_shares(query, value), lambda value: good_shares(query, value), [shares])

    def test_edges(self):
        self.assertIs(is_shares(ONE, ((1000,), 1000)), True)
        self.assertIs(is_shares(ONE, ((LAST,), LAST)), True)
        for value in [((LAST + 1,), 1), ((1,), LAST + 1), ((1,), 0), ((-1,), 1), ((True,), 1), ((1,), True), ((), 1),
                      ((1, 1), 1), ([1], 1), [(1,), 1], ((1,), 1, 1), ((1,),), (1, 1), ((1,), None), (("1",), 1)]:
            self.assertIs(is_shares(ONE, value), False, value)

    def test_wrong(self):
        check_guards(self, is_shares, (TRIANGLE, HALVES), [QUERY])


class TestIsCover(unittest.TestCase):

    def test_all_candidates(self):
        for query in (ONE, EQUAL, PATH, TRIANGLE):
            for shares in candidates(query, 3):
                self.assertIs(is_cover(query, shares), good_cover(query, shares))
                for wanted in subsets(range(query[0])):
                    self.assertIs(is_cover(query, shares, wanted), good_cover(query, shares, wanted))

    def test_nothing_wanted(self):
        self.assertIs(is_cover(TRIANGLE, ((0, 0, 0), 1), ()), True)
        self.assertIs(is_cover(TRIANGLE, ((0, 0, 0), 0), ()), False)
        self.assertIs(is_cover(TRIANGLE, ((0, 0, 0), 1)), False)
        self.assertIs(is_cover(TRIANGLE, ((0, 0, 0), 1), None), False)

    def test_any_value(self):
        for wanted in (None, (), (1,), (0, 2)):
            check_judge(self, lambda value: is_cover(TRIANGLE, value, wanted),
                        lambda value: good_cover(TRIANGLE, value, wanted), [HALVES, ((1, 0, 0), 1)])

    def test_wrong(self):
        check_guards(self, is_cover, (TRIANGLE, HALVES, (0, 1)), [QUERY, (None, None), WANTED])
        check_guards(self, is_cover, (TRIANGLE, None, (0, 1)), [QUERY, (None, None), WANTED])


class TestLeastTerms(unittest.TestCase):

    def test_divided(self):
        self.assertEqual(least_terms(TRIANGLE, ((2, 4, 6), 8)), ((1, 2, 3), 4))
        self.assertEqual(least_terms(TRIANGLE, ((0, 0, 0), 8)), ((0, 0, 0), 1))
        self.assertEqual(least_terms(TRIANGLE, ((0, 3, 0), 1)), ((0, 3, 0), 1))
        self.assertEqual(least_terms(ONE, ((LAST,), LAST)), ((1,), 1))

    def test_same_shares(self):
        for query, _, (numerators, denominator) in samples(200, 2, shares=13):
            (less, under) = least_terms(query, (numerators, denominator))
            self.assertEqual(gcd(under, *less), 1)
            self.assertEqual([n * under for n in numerators], [n * denominator for n in less])

    def test_wrong(self):
        check_guards(self, least_terms, (TRIANGLE, ((2, 2, 2), 4)), [QUERY, SHARES])


class TestIsWithin(unittest.TestCase):

    def test_plain_multiplying(self):
        for query, counts, shares in samples(400, 3):
            for value in range(0, 70, 3):
                self.assertIs(is_within(query, counts, shares, value), comes_to(counts, shares, value))

    def test_zeros(self):
        self.assertIs(is_within(ONE, (0,), ((0,), 1), 1), True)
        self.assertIs(is_within(ONE, (0,), ((0,), 1), 2), False)
        self.assertIs(is_within(ONE, (0,), ((1,), 1), 0), True)
        self.assertIs(is_within(ONE, (0,), ((1,), 1), 1), False)
        self.assertIs(is_within(ONE, (5,), ((0,), 1), 0), True)

    def test_great_powers(self):
        for d in (998, 999):
            self.assertIs(is_within(ONE, (LAST,), ((d,), d), LAST), True)
            self.assertIs(is_within(ONE, (LAST - 1,), ((d,), d), LAST), False)
        # The root of (n - 1) * (n + 1) is just below n.
        query = (1, ((0,), (0,)))
        self.assertIs(is_within(query, (LAST - 2, LAST), ((1, 1), 2), LAST - 1), False)
        self.assertIs(is_within(query, (LAST - 2, LAST), ((1, 1), 2), LAST - 2), True)
        self.assertIs(is_within(query, (LAST - 2, LAST), ((500, 499), 999), LAST - 1), False)
        self.assertIs(is_within(query, (LAST - 2, LAST), ((499, 500), 999), LAST - 1), True)

    def test_too_many(self):
        for shares in (((1000,), 999), ((999,), 1000), ((0,), 1000), ((LAST,), LAST)):
            self.assertEqual(raised(is_within, ONE, (1,), shares, 1).most, 999)
            self.assertIs(type(raised(is_within, ONE, (1,), shares, 1)), TooMany)
            self.assertIs(type(raised(is_within, ONE, (1,), shares, -1)), BadNumber)
            self.assertIs(type(raised(is_within, ONE, (-1,), shares, -1)), BadCounts)
        self.assertIsNone(raised(is_within, ONE, (1,), ((999,), 999), 1))

    def test_too_many_at_any_place(self):
        counts = (2, 3, 4)
        for place in range(3):
            for least in (0, 1, 999):
                shares = tuple(1000 if k == place else least for k in range(3)), 2
                for call in ((is_within, TRIANGLE, counts, shares, 1), (most_within, TRIANGLE, counts, shares),
                             (compared_shares, TRIANGLE, counts, shares, HALVES),
                             (compared_shares, TRIANGLE, counts, HALVES, shares)):
                    error = raised(*call)
                    self.assertEqual((type(error), error.most), (TooMany, 999))

    def test_wrong(self):
        check_guards(self, is_within, (TRIANGLE, (3, 3, 0), HALVES, 4), [QUERY, COUNTS, SHARES, NUMBER])


class TestMostWithin(unittest.TestCase):

    def test_example_by_hand(self):
        self.assertEqual(most_within(TRIANGLE, (3, 3, 3), HALVES), 5)
        self.assertEqual(most_within(TRIANGLE, (4, 4, 4), HALVES), 8)

    def test_plain_multiplying(self):
        for query, counts, shares in samples(400, 4, counts=9):
            most = most_within(query, counts, shares)
            self.assertTrue(comes_to(counts, shares, most) and not comes_to(counts, shares, most + 1))

    def test_zeros(self):
        self.assertEqual(most_within(ONE, (0,), ((0,), 7)), 1)
        self.assertEqual(most_within(ONE, (0,), ((1,), 7)), 0)

    def test_great_powers(self):
        for numerators, d in (((999, 999), 1), ((999, 998), 2), ((999, 1), 999), ((997, 5), 998)):
            query, counts = (1, ((0,), (0,))), (LAST, LAST - 1)
            most = most_within(query, counts, (numerators, d))
            power = powers_of(counts, numerators)
            self.assertTrue(most ** d <= power < (most + 1) ** d)

    def test_too_many(self):
        for shares in (((1000,), 999), ((999,), 1000)):
            self.assertEqual(raised(most_within, ONE, (1,), shares).most, 999)
            self.assertIs(type(raised(most_within, ONE, (-1,), shares)), BadCounts)

    def test_wrong(self):
        check_guards(self, most_within, (TRIANGLE, (3, 3, 0), HALVES), [QUERY, COUNTS, SHARES])


class TestComparedShares(unittest.TestCase):

    def test_plain_multiplying(self):
        dice = Dice(6)
        for query, counts, one in samples(600, 5):
            other = (tuple(dice.below(4) for _ in counts), 1 + dice.below(4))
            left = powers_of(counts, one[0]) ** other[1]
            right = powers_of(counts, other[0]) ** one[1]
            self.assertEqual(compared_shares(query, counts, one, other), (left > right) - (left < right))
            self.assertEqual(compared_shares(query, counts, other, one), (left < right) - (left > right))

    def test_zeros(self):
        self.assertEqual(compared_shares(ONE, (0,), ((0,), 1), ((1,), 1)), 1)
        self.assertEqual(compared_shares(ONE, (0,), ((1,), 2), ((2,), 1)), 0)
        self.assertEqual(compared_shares(ONE, (0,), ((1,), 2), ((0,), 1)), -1)
        self.assertEqual(compared_shares((1, ((0,), (0,))), (0, 5), ((0, 1), 1), ((0, 2), 2)), 0)

    def test_great_powers(self):
        query = (1, ((0,), (0,), (0,)))
        counts = (LAST, LAST - 1, LAST - 2)
        self.assertEqual(compared_shares(query, counts, ((499, 0, 500), 999), ((0, 999, 0), 999)), -1)
        self.assertEqual(compared_shares(query, counts, ((500, 0, 499), 999), ((0, 999, 0), 999)), 1)
        self.assertEqual(compared_shares(query, (4, 8, 1), ((999, 0, 5), 998), ((0, 666, 0), 998)), 0)
        self.assertEqual(compared_shares(query, (4, 8, 1), ((999, 0, 5), 998), ((0, 666, 0), 997)), -1)
        self.assertEqual(compared_shares(query, counts, ((998, 0, 0), 999), ((997, 0, 0), 998)), 1)

    def test_too_many(self):
        small, great = ((1,), 1), ((1000,), 1)
        for one, other in ((small, great), (great, small), (small, ((1,), 1000))):
            self.assertEqual(raised(compared_shares, ONE, (1,), one, other).most, 999)
        self.assertIs(type(raised(compared_shares, ONE, (1,), great, None)), BadShares)
        self.assertIs(type(raised(compared_shares, ONE, None, great, None)), BadCounts)

    def test_wrong(self):
        check_guards(self, compared_shares, (TRIANGLE, (3, 3, 0), HALVES, ((1, 1, 0), 1)),
                     [QUERY, COUNTS, SHARES, SHARES])


class TestTheBound(unittest.TestCase):

    def test_answers_and_their_parts_are_within(self):
        dice = Dice(11)
        for query in some_queries(80, 4, 4, 7):
            store = some_store(dice, query, 3, 8)
            found = answers(query, store)
            counts = sizes(query, store)
            for wanted in subsets(range(query[0])):
                many = len({part(row, wanted) for row in found})
                for shares in candidates(query, 2):
                    if is_cover(query, shares, wanted):
                        self.assertTrue(comes_to(counts, shares, many))
                        self.assertIs(is_within(query, counts, shares, many), True)

    def test_ring(self):
        store = (tuple((a, b) for a in range(3) for b in range(3)),) * 4
        self.assertEqual(most_within(RING, sizes(RING, store), ((1, 0, 1, 0), 1)), len(answers(RING, store)))


if __name__ == "__main__":
    unittest.main()
