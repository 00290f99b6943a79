import unittest
from fractions import Fraction
from itertools import product

from coverjoin.covers import exponents_for, is_corner, is_least_sum, is_middle, is_sum_weights, least_sum, sum_cover
from coverjoin.covers import sum_weights, two_ways
from coverjoin.errors import BadCorner, BadCover, BadExponents, BadWanted, TooMany
from coverjoin.shares import least_terms
from helper import EQUAL, LAST, LINES, NAMED, ONE, PATH, QUERY, STAR, TRIANGLE, WIDE, Dice, all_queries, candidates
from helper import check_guards, check_judge, good_cover, good_wanted, number, numbers, raised, small_queries
from helper import some_queries, subsets, wrong_values

HALVES = ((1, 1, 1), 2)
EXPONENTS = (BadExponents, lambda query, exponents: numbers(exponents, len(query[1]), 0, 99))
COVER = (BadCover, lambda query, cover: good_cover(query, cover))


def wanted_at(place):
    return BadWanted, lambda *all_of: good_wanted(all_of[0], all_of[place])


def total(shares, exponents):
    return Fraction(sum(n * e for n, e in zip(shares[0], exponents, strict=True)), shares[1])


def good_weights(query, exponents, value, wanted=None):
    """Whether any value is fitting weights, by plain adding."""
    if type(value) is not tuple or len(value) != 2 or not numbers(value[0], query[0], 0):
        return False
    if not number(value[1]) or value[1] < 1:
        return False
    if wanted is not None and any(value[0][a] for a in range(query[0]) if a not in wanted):
        return False
    return all(sum(value[0][a] for a in atom) <= value[1] * e for atom, e in zip(query[1], exponents))


def exponents_of(query, seed, many=4):
    """Some exponents: all 0, all 1, all 99, and mixed ones."""
    dice = Dice(seed)
    atoms = len(query[1])
    yield from ((0,) * atoms, (1,) * atoms, (99,) * atoms)
    for _ in range(many):
        yield tuple(dice.one_of((0, 1, 1, 2, 3, 98, 99, dice.below(100))) for _ in range(atoms))


def in_least_terms(cover):
    return all(any(n % d for n in cover[0] + cover[1:]) for d in range(2, cover[1] + 1))


class TestLeastSum(unittest.TestCase):

    def judged(self, query, exponents, wanted):
        """The least total, with its two papers judged by plain adding."""
        numerator, denominator = least_sum(query, exponents, wanted)
        least = Fraction(numerator, denominator)
        self.assertEqual((least.numerator, least.denominator), (numerator, denominator))
        cover, weights = sum_cover(query, exponents, wanted), sum_weights(query, exponents, wanted)
        self.assertTrue(good_cover(query, cover, wanted))
        self.assertTrue(max(cover[0]) <= 999 and cover[1] <= 999)
        self.assertTrue(in_least_terms(cover))
        self.assertEqual(least_terms(query, cover), cover)
        self.assertEqual(total(cover, exponents), least)
        self.assertTrue(good_weights(query, exponents, weights, wanted))
        self.assertLessEqual(weights[1], 999)
        self.assertEqual(Fraction(sum(weights[0]), weights[1]), least)
        self.assertIs(is_sum_weights(query, exponents, weights, wanted), True)
        self.assertIs(is_least_sum(query, exponents, cover, weights, wanted), True)
        return least

    def test_example_by_hand(self):
        self.assertEqual(least_sum(TRIANGLE, (1, 1, 1)), (3, 2))
        self.assertEqual(sum_cover(TRIANGLE, (1, 1, 1)), HALVES)
        self.assertEqual(sum_weights(TRIANGLE, (1, 1, 1)), HALVES)

    def test_known_queries(self):
        self.assertEqual(least_sum(STAR, (1, 1, 1)), (3, 1))
        self.assertEqual(least_sum(WIDE, (1,) * 8), (8, 7))
        self.assertEqual(least_sum(LINES, (1,) * 7), (7, 3))
        self.assertEqual(least_sum(ONE, (99,)), (99, 1))
        self.assertEqual(least_sum(ONE, (0,)), (0, 1))

    def test_all_small_queries(self):
        for query in small_queries():
            for exponents in exponents_of(query, 1, 2):
                for wanted in [None] + subsets(range(query[0])):
                    least = self.judged(query, exponents, wanted)
                    if wanted in ((), None):
                        # Corners of at most three attributes have no greater denominator.
                        totals = [total(shares, exponents) for shares in candidates(query, 2)
                                  if good_cover(query, shares, wanted)]
                        self.assertEqual(min(totals), least)

    def test_made_queries(self):
        dice = Dice(2)
        for query in list(NAMED) + some_queries(150, 8, 8, 4):
            for exponents in exponents_of(query, dice.below(1000)):
                self.judged(query, exponents, None)
                self.judged(query, exponents, tuple(a for a in range(query[0]) if dice.below(2)))

    def test_made_queries_by_all_candidates(self):
        for query in some_queries(25, 4, 4, 9):
            covers = [shares for shares in candidates(query, 3) if good_cover(query, shares)]
            for exponents in exponents_of(query, 7):
                least = Fraction(*least_sum(query, exponents))
                self.assertEqual(min(total(cover, exponents) for cover in covers), least)

    def test_nothing_wanted(self):
        self.assertEqual(least_sum(TRIANGLE, (5, 5, 5), ()), (0, 1))
        self.assertEqual(sum_cover(TRIANGLE, (5, 5, 5), ()), ((0, 0, 0), 1))
        self.assertEqual(sum_weights(TRIANGLE, (5, 5, 5), ())[0], (0, 0, 0))

    def test_wrong(self):
        good = (TRIANGLE, (1, 0, 99), (0, 2))
        for function in (least_sum, sum_cover, sum_weights):
            check_guards(self, function, good, [QUERY, EXPONENTS, wanted_at(2)])
        for exponents in ((1, 1, 100), (1, 1, -1), (1, 1, True), (1, 1), (1, 1, 1, 1), [1, 1, 1]):
            self.assertIs(type(raised(least_sum, TRIANGLE, exponents)), BadExponents)


class TestIsSumWeights(unittest.TestCase):

    def test_any_value(self):
        for exponents, wanted, weights in (((1, 1, 1), None, HALVES), ((2, 0, 99), (0, 1), ((0, 2, 0), 1)),
                                           ((1, 1, 1), (), ((0, 0, 0), 7)), ((2, 1, 1), (1,), ((0, 3, 0), 3))):
            check_judge(self, lambda value: is_sum_weights(TRIANGLE, exponents, value, wanted),
                        lambda value: good_weights(TRIANGLE, exponents, value, wanted), [weights])

    def test_great_numbers(self):
        self.assertIs(is_sum_weights(ONE, (1,), ((LAST,), LAST)), True)
        self.assertIs(is_sum_weights(ONE, (1,), ((LAST,), LAST - 1)), False)

    def test_no_greater_total_than_a_cover(self):
        for query in all_queries(2, 2):
            for exponents in product(range(3), repeat=len(query[1])):
                least = Fraction(*least_sum(query, exponents))
                for numerators in product(range(5), repeat=2):
                    for d in (1, 2):
                        if is_sum_weights(query, exponents, (numerators, d)):
                            self.assertLessEqual(Fraction(sum(numerators), d), least)

    def test_wrong(self):
        check_guards(self, is_sum_weights, (TRIANGLE, (1, 1, 1), HALVES, (0, 1, 2)),
                     [QUERY, EXPONENTS, (None, None), wanted_at(3)])


class TestIsLeastSum(unittest.TestCase):

    def test_any_values(self):
        exponents = (1, 2, 1)
        cover, weights = sum_cover(TRIANGLE, exponents), sum_weights(TRIANGLE, exponents)

        def plain(one, other):
            if not good_cover(TRIANGLE, one) or not good_weights(TRIANGLE, exponents, other):
                return False
            return total(one, exponents) == Fraction(sum(other[0]), other[1])

        for value in [cover, ((1, 1, 0), 1), ((2, 0, 2), 2)] + wrong_values(cover):
            self.assertIs(is_least_sum(TRIANGLE, exponents, value, weights), plain(value, weights), value)
        for value in [weights, ((1, 0, 1), 2), ((2, 0, 2), 2)] + wrong_values(weights):
            self.assertIs(is_least_sum(TRIANGLE, exponents, cover, value), plain(cover, value), value)

    def test_in_part(self):
        self.assertIs(is_least_sum(TRIANGLE, (1, 1, 1), ((1, 0, 0), 1), ((1, 0, 0), 1), (0, 1)), True)
        self.assertIs(is_least_sum(TRIANGLE, (1, 1, 1), ((1, 0, 0), 1), ((1, 0, 0), 1)), False)
        self.assertIs(is_least_sum(TRIANGLE, (1, 1, 1), ((1, 0, 0), 1), ((0, 0, 1), 1), (0, 1)), False)
        self.assertIs(is_least_sum(TRIANGLE, (1, 1, 1), ((0, 0, 0), 1), ((0, 0, 0), 1), ()), True)

    def test_great_numbers(self):
        self.assertIs(is_least_sum(ONE, (1,), ((LAST,), LAST), ((LAST,), LAST)), True)

    def test_wrong(self):
        check_guards(self, is_least_sum, (TRIANGLE, (1, 1, 1), HALVES, HALVES, (0, 1, 2)),
                     [QUERY, EXPONENTS, (None, None), (None, None), wanted_at(4)])
        check_guards(self, is_least_sum, (TRIANGLE, (1, 1, 1), None, True, (0, 1, 2)),
                     [QUERY, EXPONENTS, (None, None), (None, None), wanted_at(4)])


def plain_corner(query, cover):
    """Whether a cover is no middle: no shares with small differences lead both ways."""
    for steps in product(range(-3, 4), repeat=len(query[1])):
        if any(steps) and all(step == 0 or n > 0 for step, n in zip(steps, cover[0])):
            sums = [sum(s for s, atom in zip(steps, query[1]) if a in atom) for a in range(query[0])]
            held = [sum(n for n, atom in zip(cover[0], query[1]) if a in atom) for a in range(query[0])]
            if all(s == 0 or h > cover[1] for s, h in zip(sums, held)):
                return False
    return True


def corner_queries():
    yield from all_queries(2, 2)
    yield from (TRIANGLE, PATH, EQUAL, STAR, (3, ((0, 1), (0, 2), (1, 2), (0, 1, 2))))
    yield from some_queries(8, 4, 4, 12)


class TestCorners(unittest.TestCase):

    def test_all_candidates(self):
        for query in corner_queries():
            for cover in candidates(query, 3):
                if good_cover(query, cover):
                    plain = plain_corner(query, cover)
                    self.assertIs(is_corner(query, cover), plain and in_least_terms(cover), (query, cover))
                    self.assertEqual(two_ways(query, cover) is None, plain)

    def test_any_value(self):
        check_judge(self, lambda value: is_corner(TRIANGLE, value),
                    lambda value: good_cover(TRIANGLE, value) and in_least_terms(value) and plain_corner(TRIANGLE, value)
                    if good_cover(TRIANGLE, value) and max(value[0] + value[1:]) < 2000 else False,
                    [HALVES, ((1, 1, 0), 1)])
        self.assertIs(is_corner(TRIANGLE, ((2, 2, 2), 4)), False)
        self.assertIs(is_corner(ONE, ((LAST,), LAST - 1)), False)
        self.assertIs(is_corner(ONE, ((LAST,), LAST)), False)

    def test_covers_of_least_sum(self):
        self.assertIs(is_corner(WIDE, ((1,) * 8, 7)), True)
        self.assertIs(is_corner(LINES, ((1,) * 7, 3)), True)

    def test_wrong(self):
        check_guards(self, is_corner, (TRIANGLE, HALVES), [QUERY])


def plain_middle(query, cover, one, other):
    if not good_cover(query, one) or not good_cover(query, other):
        return False
    left, right, middle = ([Fraction(n, d) for n in numerators] for numerators, d in (one, other, cover))
    return left != middle and all(2 * m == a + b for m, a, b in zip(middle, left, right))


class TestMiddles(unittest.TestCase):

    def test_any_values(self):
        cover, one, other = ((3, 3, 3), 4), ((1, 1, 1), 2), ((1, 1, 1), 1)
        self.assertIs(is_middle(TRIANGLE, cover, one, other), True)
        self.assertIs(is_middle(TRIANGLE, cover, ((4, 4, 4), 8), ((2, 2, 2), 2)), True)
        self.assertIs(is_middle(TRIANGLE, cover, cover, ((6, 6, 6), 8)), False)
        self.assertIs(is_middle(TRIANGLE, ((1, 1, 1), 2), ((0, 1, 1), 2), ((2, 1, 1), 2)), False)
        for value in wrong_values(one):
            self.assertIs(is_middle(TRIANGLE, cover, value, other), plain_middle(TRIANGLE, cover, value, other), value)
            self.assertIs(is_middle(TRIANGLE, cover, other, value), plain_middle(TRIANGLE, cover, other, value), value)

    def test_all_small_ones(self):
        for query in (EQUAL, PATH):
            covers = [cover for cover in candidates(query, 2) if good_cover(query, cover)]
            for triple in product(covers, repeat=3):
                self.assertIs(is_middle(query, *triple), plain_middle(query, *triple))

    def test_wrong(self):
        check_guards(self, is_middle, (TRIANGLE, ((3, 3, 3), 4), HALVES, ((1, 1, 1), 1)), [QUERY, COVER])
        check_guards(self, is_middle, (TRIANGLE, ((3, 3, 3), 4), None, []), [QUERY, COVER])


class TestTwoWays(unittest.TestCase):

    def test_ways_lead_to_covers_whose_middle_it_is(self):
        dice = Dice(5)
        for query in list(NAMED) + some_queries(150, 8, 8, 6):
            for most in (3, 999):
                d = 1 + dice.below(most)
                cover = (tuple(min(999, dice.one_of((0, d, d, dice.below(2 * d)))) for _ in query[1]), d)
                if good_cover(query, cover):
                    found = two_ways(query, cover)
                    if found is None:
                        self.assertIs(is_corner(query, least_terms(query, cover)), True)
                    else:
                        self.assertTrue(plain_middle(query, cover, *found))
                        self.assertIs(is_middle(query, cover, *found), True)
                        self.assertIs(is_corner(query, least_terms(query, cover)), False)

    def test_least_terms_do_not_matter(self):
        self.assertIsNone(two_ways(TRIANGLE, ((2, 2, 2), 4)))
        self.assertIsNone(two_ways(TRIANGLE, ((499, 499, 499), 998)))
        self.assertIsNotNone(two_ways(TRIANGLE, ((999, 999, 999), 999)))

    def test_too_many(self):
        for cover in (((1000, 999, 999), 999), ((500, 500, 500), 1000), ((2000, 2000, 2000), 4000)):
            self.assertIs(type(raised(two_ways, TRIANGLE, cover)), TooMany)
            self.assertEqual(raised(two_ways, TRIANGLE, cover).most, 999)
        self.assertIs(type(raised(two_ways, TRIANGLE, ((1000, 0, 0), 1000))), BadCover)

    def test_wrong(self):
        check_guards(self, two_ways, (TRIANGLE, HALVES), [QUERY, COVER])


class TestExponentsFor(unittest.TestCase):

    def test_told(self):
        self.assertEqual(exponents_for(TRIANGLE, HALVES), (2, 2, 2))
        self.assertEqual(exponents_for(TRIANGLE, ((1, 1, 0), 1)), (1, 1, 3))

    def test_only_the_corner_has_the_least_total(self):
        for query in corner_queries():
            covers = [cover for cover in candidates(query, 3) if good_cover(query, cover)]
            for corner in covers:
                if is_corner(query, corner):
                    exponents = exponents_for(query, corner)
                    tight = [a for a in range(query[0])
                             if sum(n for n, atom in zip(corner[0], query[1]) if a in atom) == corner[1]]
                    self.assertEqual(total(corner, exponents), len(tight))
                    self.assertEqual(sum_cover(query, exponents), corner)
                    for cover in covers:
                        if least_terms(query, cover) != corner:
                            self.assertGreater(total(cover, exponents), len(tight))

    def test_great_corners(self):
        for query, corner in ((WIDE, ((1,) * 8, 7)), (LINES, ((1,) * 7, 3))):
            self.assertEqual(sum_cover(query, exponents_for(query, corner)), corner)

    def test_wrong(self):
        good = (BadCorner, lambda query, corner: good_cover(query, corner) and is_corner(query, corner))
        check_guards(self, exponents_for, (TRIANGLE, HALVES), [QUERY, good])
        for value in (((2, 2, 2), 4), ((1, 1, 1), 1), ((1, 0, 0), 1)):
            self.assertIs(type(raised(exponents_for, TRIANGLE, value)), BadCorner)


if __name__ == "__main__":
    unittest.main()
