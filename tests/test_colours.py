import unittest
from fractions import Fraction
from itertools import permutations, product

from coverjoin.answers import answers
from coverjoin.checks import is_store
from coverjoin.colours import best_colouring, chain_reaches, colour_store, colours_at, is_chain_cover, is_colouring
from coverjoin.colours import is_least_chain, key_chain, least_chain, sum_store, told_first
from coverjoin.covers import least_sum
from coverjoin.errors import BadAttributes, BadColouring, BadExponents, BadKeys, BadOrder, BadRoot, NotSimple, TooMany
from coverjoin.keys import are_keys, keeps_keys
from coverjoin.shares import is_within, least_terms
from coverjoin.tables import sizes
from helper import LAST, ONE, PATH, QUERY, TRIANGLE, WIDE, Dice, all_queries, candidates, check_guards, check_judge
from helper import comes_to, good_cover, good_order, good_shares, number, numbers, powers_of, raised, rising
from helper import some_queries, some_store, subsets, wrong_values
from test_bounds import ROOT
from test_covers import EXPONENTS, total
from test_keys import KEYS, TOLD, TOLD_KEYS, all_keys, plain_keeps, plain_told, samples

ORDER = (BadOrder, lambda query, keys, order: good_order(query, order))
HALVES = ((1, 1, 1), 2)


def plain_chain(query, keys, order):
    chain = [()]
    for k in range(len(order) + 1):
        told = plain_told(query, keys, order[:k])
        if told not in chain:
            chain.append(told)
    return tuple(chain)


def plain_reaches(query, keys, order):
    chain = plain_chain(query, keys, order)
    found = []
    for before, behind in zip(chain, chain[1:]):
        places = []
        for at, atom in enumerate(query[1]):
            known = set(before) | (set(behind) & set(plain_told(query, keys, atom)))
            if set(behind) <= set(plain_told(query, keys, known)):
                places.append(at)
        found.append(tuple(places))
    return tuple(found)


def good_chain_cover(query, keys, order, value):
    return good_shares(query, value) and all(sum(value[0][at] for at in places) >= value[1]
                                             for places in plain_reaches(query, keys, order))


def good_step_weights(query, keys, order, exponents, value):
    reaches = plain_reaches(query, keys, order)
    if type(value) is not tuple or len(value) != 2 or not numbers(value[0], len(reaches), 0):
        return False
    if not number(value[1]) or value[1] < 1:
        return False
    return all(sum(w for w, places in zip(value[0], reaches) if at in places) <= value[1] * e
               for at, e in enumerate(exponents))


class TestChains(unittest.TestCase):

    def test_told_query(self):
        self.assertEqual(key_chain(TOLD, TOLD_KEYS, (0, 1, 2)), ((), (0,), (0, 1, 2)))
        self.assertEqual(key_chain(TOLD, TOLD_KEYS, (2, 1, 0)), ((), (1, 2), (0, 1, 2)))
        self.assertEqual(chain_reaches(TOLD, TOLD_KEYS, (0, 1, 2)), ((0,), (0, 1)))
        self.assertEqual(chain_reaches(TOLD, TOLD_KEYS, (2, 1, 0)), ((0, 1), (0,)))
        # Without what (0, 1) tells the atom would not reach the step behind (0,).
        query = (3, ((0, 1), (0, 1, 2), (2,)))
        self.assertEqual(chain_reaches(query, ((1, (0, 1)),), (0, 2, 1)), ((0, 1), (0, 1, 2), (0, 1)))

    def test_atoms_that_reach_no_step(self):
        query = (2, ((0, 1), (1,)))
        self.assertEqual(chain_reaches(query, ((0, (0,)),), (0, 1)), ((0,),))
        self.assertEqual(least_chain(query, ((0, (0,)),), (0, 1), (5, 0)), ((5, 1), ((1, 0), 1), ((5,), 1)))

    def test_all_orders(self):
        for query, keys, _ in samples(150, 4, 4):
            for order in permutations(range(query[0])):
                self.assertEqual(key_chain(query, keys, order), plain_chain(query, keys, order))
                self.assertEqual(chain_reaches(query, keys, order), plain_reaches(query, keys, order))

    def test_wrong(self):
        for function in (key_chain, chain_reaches):
            check_guards(self, function, (TOLD, TOLD_KEYS, (2, 0, 1)), [QUERY, KEYS, ORDER])


class TestIsChainCover(unittest.TestCase):

    def test_any_value(self):
        for order in ((0, 1, 2), (2, 1, 0)):
            check_judge(self, lambda value: is_chain_cover(TOLD, TOLD_KEYS, order, value),
                        lambda value: good_chain_cover(TOLD, TOLD_KEYS, order, value), [((2, 1), 2), ((0, 1), 1)])

    def test_without_keys_they_are_the_covers(self):
        for query in list(all_queries(2, 2)) + [TRIANGLE, PATH]:
            for order in permutations(range(query[0])):
                for shares in candidates(query, 2):
                    self.assertIs(is_chain_cover(query, (), order, shares), good_cover(query, shares))

    def test_covers_are_chain_covers(self):
        for query, keys, _ in samples(40, 5, 4):
            for order in permutations(range(query[0])):
                for shares in candidates(query, 2):
                    told = is_chain_cover(query, keys, order, shares)
                    self.assertIs(told, good_chain_cover(query, keys, order, shares))
                    self.assertTrue(told or not good_cover(query, shares))

    def test_wrong(self):
        for value in (((1, 1), 1), None):
            check_guards(self, is_chain_cover, (TOLD, TOLD_KEYS, (2, 0, 1), value), [QUERY, KEYS, ORDER])


class TestLeastChain(unittest.TestCase):

    def judged(self, query, keys, order, exponents):
        (numerator, under), cover, weights = least_chain(query, keys, order, exponents)
        least = Fraction(numerator, under)
        self.assertEqual((least.numerator, least.denominator), (numerator, under))
        self.assertTrue(good_chain_cover(query, keys, order, cover))
        self.assertTrue(good_step_weights(query, keys, order, exponents, weights))
        self.assertEqual(least_terms(query, cover), cover)
        self.assertTrue(max(cover[0]) <= 999 and cover[1] <= 999 and weights[1] <= 999)
        self.assertEqual(total(cover, exponents), least)
        self.assertEqual(Fraction(sum(weights[0]), weights[1]), least)
        self.assertIs(is_least_chain(query, keys, order, exponents, cover, weights), True)
        return least

    def test_all_candidates(self):
        for query, keys, dice in samples(50, 6, 4):
            for order in permutations(range(query[0])):
                exponents = tuple(dice.below(4) for _ in query[1])
                least = self.judged(query, keys, order, exponents)
                totals = [total(shares, exponents) for shares in candidates(query, 3)
                          if good_chain_cover(query, keys, order, shares)]
                self.assertEqual(min(totals), least)

    def test_made_queries(self):
        dice = Dice(14)
        for query in some_queries(150, 8, 8, 15) + [WIDE]:
            there = all_keys(query)
            for many in (0, 1, 2, 5, 20):
                keys = tuple(sorted({dice.one_of(there) for _ in range(many)}))
                order = tuple(sorted(range(query[0]), key=lambda a: dice.below(100)))
                exponents = tuple(dice.one_of((0, 1, 1, 2, 99)) for _ in query[1])
                least = self.judged(query, keys, order, exponents)
                self.assertLessEqual(least, Fraction(*least_sum(query, exponents)))
                if not keys:
                    self.assertEqual(least, Fraction(*least_sum(query, exponents)))

    def test_keys_of_all_atoms(self):
        query = (8, tuple((k, (k + 1) % 8) if k < 7 else (0, 7) for k in range(8)))
        keys = tuple((k, (k,)) for k in range(7)) + ((7, (7,)),)
        self.assertEqual(self.judged(query, keys, tuple(range(8)), (1,) * 8), 1)

    def test_bound_with_keys(self):
        for query, keys, dice in samples(300, 8, 4):
            store = some_store(dice, query, 3, 6)
            if plain_keeps(query, keys, store):
                many, counts = len(answers(query, store)), sizes(query, store)
                for order in permutations(range(query[0])):
                    for exponents in ((1,) * len(counts), tuple(dice.below(3) for _ in counts)):
                        cover = least_chain(query, keys, order, exponents)[1]
                        self.assertTrue(comes_to(counts, cover, many))
                        self.assertIs(is_within(query, counts, cover, many), True)

    def test_wrong(self):
        exponents = (BadExponents, lambda query, keys, order, value: EXPONENTS[1](query, value))
        good = (TOLD, TOLD_KEYS, (2, 0, 1), (1, 2))
        check_guards(self, least_chain, good, [QUERY, KEYS, ORDER, exponents])
        for values in ((((1, 1), 1), ((1, 1), 1)), (None, True)):
            check_guards(self, is_least_chain, good + values, [QUERY, KEYS, ORDER, exponents])


class TestIsLeastChain(unittest.TestCase):

    def test_any_values(self):
        order, exponents = (2, 0, 1), (2, 1)
        cover, weights = least_chain(TOLD, TOLD_KEYS, order, exponents)[1:]

        def plain(one, other):
            if not good_chain_cover(TOLD, TOLD_KEYS, order, one):
                return False
            if not good_step_weights(TOLD, TOLD_KEYS, order, exponents, other):
                return False
            return total(one, exponents) == Fraction(sum(other[0]), other[1])

        for value in [cover, ((2, 2), 2), ((1, 0), 1)] + wrong_values(cover):
            self.assertIs(is_least_chain(TOLD, TOLD_KEYS, order, exponents, value, weights), plain(value, weights))
        for value in [weights, ((2, 0), 1), ((1, 1), 1), ((0, 4), 2)] + wrong_values(weights):
            self.assertIs(is_least_chain(TOLD, TOLD_KEYS, order, exponents, cover, value), plain(cover, value))


def good_colouring(query, keys, value):
    if type(value) is not tuple or len(value) != query[0] or not all(rising(row, 0, LAST) for row in value):
        return False
    for place, tellers in keys:
        told = {c for a in tellers for c in value[a]}
        if not {c for a in query[1][place] for c in value[a]} <= told:
            return False
    return True


COLOURING = (BadColouring, good_colouring)
COLOURS = ((1, 7), (7,), (7,))


class TestColourings(unittest.TestCase):

    def test_any_value(self):
        for keys in (TOLD_KEYS, (), ((0, (0,)),)):
            check_judge(self, lambda value: is_colouring(TOLD, keys, value),
                        lambda value: good_colouring(TOLD, keys, value), [COLOURS, ((), (), ()), ((0,), (), (LAST,))])

    def test_all_small_ones(self):
        colours = subsets(range(2))
        for keys in subsets([(0, (0,)), (0, (1,)), (1, (1, 2)), (1, (2,))]):
            for value in product(colours, repeat=3):
                self.assertIs(is_colouring(PATH, keys, value), good_colouring(PATH, keys, value))

    def test_colours_at(self):
        self.assertEqual(colours_at(TOLD, TOLD_KEYS, COLOURS, ()), ())
        self.assertEqual(colours_at(TOLD, TOLD_KEYS, COLOURS, (1, 2)), (7,))
        self.assertEqual(colours_at(TOLD, TOLD_KEYS, COLOURS, (0, 1, 2)), (1, 7))
        self.assertEqual(colours_at(TOLD, (), ((), (), ()), (0, 1, 2)), ())
        self.assertEqual(colours_at(TOLD, (), ((5, 8), (1, LAST), (16,)), (0, 1, 2)), (1, 5, 8, 16, LAST))

    def test_wrong(self):
        attributes = (BadAttributes, lambda query, keys, colouring, value: rising(value, 0, query[0] - 1))
        check_guards(self, is_colouring, (TOLD, TOLD_KEYS, COLOURS), [QUERY, KEYS])
        check_guards(self, colours_at, (TOLD, TOLD_KEYS, COLOURS, (0, 2)), [QUERY, KEYS, COLOURING, attributes])


def plain_colour_store(query, colouring, root):
    tables = []
    for atom in query[1]:
        colours = sorted({c for a in atom for c in colouring[a]})
        rows = set()
        for digits in product(range(root), repeat=len(colours)):
            digit = dict(zip(colours, digits))
            row = []
            for a in atom:
                mine = sorted(colouring[a])
                row.append(sum(digit[c] * root ** (len(mine) - 1 - k) for k, c in enumerate(mine)))
            rows.add(tuple(row))
        tables.append(tuple(sorted(rows)))
    return tuple(tables)


class TestColourStore(unittest.TestCase):

    def test_digits(self):
        self.assertEqual(colour_store((2, ((0, 1),)), (), ((0, 1), (1, 2)), 2),
                         (((0, 0), (0, 1), (1, 2), (1, 3), (2, 0), (2, 1), (3, 2), (3, 3)),))
        self.assertEqual(colour_store(ONE, (), ((),), LAST), (((0,),),))
        self.assertEqual(colour_store((2, ((0, 1),)), (), ((5,), ()), 3), (((0, 0), (1, 0), (2, 0)),))

    def test_made_colourings(self):
        for query, keys, dice in samples(400, 9, 4):
            colouring = tuple(tuple(c for c in (0, 3, 4, LAST) if dice.below(2)) for _ in range(query[0]))
            if good_colouring(query, keys, colouring):
                for root in (1, 2, 3):
                    store = colour_store(query, keys, colouring, root)
                    self.assertTrue(is_store(query, store))
                    self.assertEqual(store, plain_colour_store(query, colouring, root))
                    self.assertIs(keeps_keys(query, keys, store), True)
                    held = [len({c for a in atom for c in colouring[a]}) for atom in query[1]]
                    self.assertEqual(sizes(query, store), tuple(root ** many for many in held))
                    many = len({c for row in colouring for c in row})
                    self.assertGreaterEqual(len(answers(query, store)), root ** many)

    def test_too_many(self):
        self.assertEqual(sizes(ONE, colour_store(ONE, (), ((3,),), 400)), (400,))
        self.assertEqual(raised(colour_store, ONE, (), ((3,),), 401).most, 400)
        self.assertEqual(sizes(ONE, colour_store(ONE, (), (tuple(range(8)),), 2)), (256,))
        self.assertEqual(raised(colour_store, ONE, (), (tuple(range(9)),), 2).most, 400)
        self.assertEqual(raised(colour_store, ONE, (), (tuple(range(3000)),), LAST).most, 400)
        self.assertEqual(colour_store(ONE, (), (tuple(range(3000)),), 1), (((0,),),))
        self.assertEqual(raised(colour_store, PATH, (), ((), (), tuple(range(9))), 2).most, 400)

    def test_wrong(self):
        check_guards(self, colour_store, (TOLD, TOLD_KEYS, COLOURS, 2), [QUERY, KEYS, COLOURING, ROOT])
        self.assertIs(type(raised(colour_store, ONE, (), ((3,),), 0)), BadRoot)


def simple_samples(many, seed, most=5):
    for query, keys, dice in samples(many, seed, most):
        yield query, tuple(key for key in keys if len(key[1]) == 1), dice


class TestToldFirst(unittest.TestCase):

    def test_first_of_all_orders(self):
        for query, keys, _ in simple_samples(200, 10, 4):
            told = [set(plain_told(query, keys, (a,))) for a in range(query[0])]
            for order in permutations(range(query[0])):
                if all(order.index(b) < order.index(a) for a in order for b in told[a] if a not in told[b]):
                    self.assertEqual(told_first(query, keys), order)
                    break

    def test_told(self):
        self.assertEqual(told_first(PATH, ((0, (0,)), (1, (1,)))), (2, 1, 0))
        self.assertEqual(told_first(PATH, ((0, (0,)), (0, (1,)))), (0, 1, 2))
        self.assertEqual(told_first(PATH, ()), (0, 1, 2))

    def test_wrong(self):
        check_guards(self, told_first, (TOLD, ((0, (0,)), (1, (2,)))),
                     [QUERY, KEYS])
        self.assertIs(type(raised(told_first, TOLD, TOLD_KEYS)), NotSimple)
        self.assertIs(type(raised(told_first, TOLD, TOLD_KEYS[::-1])), BadKeys)


class TestBestColouring(unittest.TestCase):

    def judged(self, query, keys, exponents):
        colouring, scale = best_colouring(query, keys, exponents)
        self.assertTrue(number(scale) and scale >= 1)
        self.assertTrue(good_colouring(query, keys, colouring))
        for atom, exponent in zip(query[1], exponents):
            self.assertLessEqual(len({c for a in atom for c in colouring[a]}), scale * exponent)
        least, cover, _ = least_chain(query, keys, told_first(query, keys), exponents)
        many = len({c for row in colouring for c in row})
        self.assertEqual(Fraction(many, scale), Fraction(*least))
        return colouring, scale, cover, many

    def test_made_queries(self):
        for query, keys, dice in simple_samples(200, 11):
            for exponents in ((0,) * len(query[1]), (1,) * len(query[1]), tuple(dice.below(4) for _ in query[1])):
                colouring, scale, cover, many = self.judged(query, keys, exponents)
                for root in (1, 2, 3):
                    counts = [root ** (scale * e) for e in exponents]
                    self.assertEqual(root ** (many * cover[1]), powers_of(counts, cover[0]))
                    if root ** many <= 20000 and all(root ** (scale * e) <= 400 for e in exponents):
                        store = colour_store(query, keys, colouring, root)
                        self.assertTrue(all(n <= most for n, most in zip(sizes(query, store), counts)))
                        self.assertEqual(len(answers(query, store)), root ** many)

    def test_great_ones(self):
        dice = Dice(16)
        for query in some_queries(80, 8, 8, 17) + [WIDE]:
            keys = tuple(sorted({(at, (dice.one_of(query[1][at]),)) for at in range(len(query[1])) if dice.below(2)}))
            self.judged(query, keys, tuple(dice.one_of((0, 1, 2, 99)) for _ in query[1]))

    def test_no_more_answers_with_simple_keys(self):
        for query, keys, dice in simple_samples(200, 12, 4):
            store = some_store(dice, query, 4, 6)
            if plain_keeps(query, keys, store):
                cover = least_chain(query, keys, told_first(query, keys), (1,) * len(store))[1]
                self.assertTrue(comes_to(sizes(query, store), cover, len(answers(query, store))))

    def test_wrong(self):
        good = (TOLD, ((0, (0,)), (1, (2,))), (1, 2))
        exponents = (BadExponents, lambda query, keys, value: EXPONENTS[1](query, value))
        check_guards(self, best_colouring, good, [QUERY, KEYS, exponents])
        self.assertIs(type(raised(best_colouring, TOLD, TOLD_KEYS, (1, 2))), NotSimple)
        self.assertIs(type(raised(best_colouring, TOLD, TOLD_KEYS, None)), NotSimple)
        self.assertIs(type(raised(best_colouring, TOLD, TOLD_KEYS[::-1], None)), BadKeys)


class TestSumStore(unittest.TestCase):

    def test_facts(self):
        for root in (1, 2, 3, 5, 20):
            query, keys, store = sum_store(root)
            self.assertEqual(query, (3, ((0,), (1,), (2,), (0, 1, 2))))
            self.assertEqual(keys, ((3, (0, 1)), (3, (0, 2)), (3, (1, 2))))
            self.assertTrue(are_keys(query, keys) and is_store(query, store))
            self.assertEqual(sizes(query, store), (root, root, root, root ** 2))
            self.assertEqual(store[:3], (tuple((n,) for n in range(root)),) * 3)
            self.assertTrue(all((x + y) % root == z for x, y, z in store[3]))
            self.assertTrue(plain_keeps(query, keys, store))
            self.assertEqual(len(answers(query, store)), root ** 2)
            for order in permutations(range(3)):
                self.assertEqual(least_chain(query, keys, order, (1, 1, 1, 2))[0], (2, 1))

    def test_colours_stay_behind(self):
        query, keys, _ = sum_store(2)
        for value in product(subsets(range(3)), repeat=3):
            if is_colouring(query, keys, value):
                self.assertLessEqual(2 * len({c for row in value for c in row}), sum(len(row) for row in value))

    def test_too_many(self):
        self.assertEqual(raised(sum_store, 21).most, 400)
        self.assertEqual(raised(sum_store, LAST).most, 400)
        self.assertIs(type(raised(sum_store, 21)), TooMany)

    def test_wrong(self):
        check_guards(self, sum_store, (2,), [ROOT])


if __name__ == "__main__":
    unittest.main()
