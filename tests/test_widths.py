import unittest
from fractions import Fraction
from itertools import permutations, product
from math import gcd

from coverjoin.acyclic import is_acyclic, tree_of
from coverjoin.bagtrees import bag_tree_of
from coverjoin.errors import BadBag
from coverjoin.tables import renamed
from coverjoin.widths import is_width_paper, weight, width, width_paper
from helper import EQUAL, LAST, LINES, NAMED, ONE, PATH, QUERY, RING, STAR, TRIANGLE, WIDE, Dice, all_bag_trees
from helper import all_queries, an_order, candidates, check_guards, check_judge, good_bag, good_bag_tree, good_cover
from helper import has_ears, hierarchical_queries, number, numbers, plain_bag, plain_bags, rising, some_queries, subsets


def pair(fraction):
    return fraction.numerator, fraction.denominator


def plain_weight(query, bag):
    """The least total, among covers of denominators up to 3: enough for so few attributes."""
    return min(Fraction(sum(shares[0]), shares[1]) for shares in candidates(query, 3) if good_cover(query, shares, bag))


def plain_width(query):
    """The least greatest weight over all orders."""
    return min(max(Fraction(*weight(query, bag)) for bag in plain_bags(query, order))
               for order in permutations(range(query[0])))


def good_paper(query, value):
    """Whether any value is a paper, as point 101 tells it, by adding and multiplying."""
    if type(value) is not tuple or len(value) != 5:
        return False
    told, tree, covers, family, dear = value
    if type(told) is not tuple or len(told) != 2 or not numbers(told, 2, 1) or gcd(*told) != 1:
        return False
    least = Fraction(*told)
    if not good_bag_tree(query, tree) or type(covers) is not tuple or len(covers) != len(tree[0]):
        return False
    for bag, cover in zip(tree[0], covers):
        if not good_cover(query, cover, bag) or Fraction(sum(cover[0]), cover[1]) > least:
            return False
    if type(family) is not tuple or not all(rising(gone, 0, query[0] - 1) for gone in family):
        return False
    if list(family) != sorted(set(family)) or () not in family or tuple(range(query[0])) in family:
        return False
    if type(dear) is not tuple or not all(good_dear(query, least, item) for item in dear):
        return False
    bags = {item[0] for item in dear}
    for gone in family:
        for a in set(range(query[0])) - set(gone):
            if tuple(sorted(gone + (a,))) not in family and plain_bag(query, gone, a) not in bags:
                return False
    return True


def good_dear(query, least, value):
    if type(value) is not tuple or len(value) != 3:
        return False
    bag, weights, denominator = value
    if not good_bag(query, bag) or not numbers(weights, query[0], 0) or not number(denominator) or denominator < 1:
        return False
    if any(sum(weights[a] for a in atom if a in bag) > denominator for atom in query[1]):
        return False
    return sum(weights[a] for a in bag) >= least * denominator


def ring(many):
    return many, tuple((k, k + 1) for k in range(many - 1)) + ((0, many - 1),)


def pairs(many):
    return many, tuple((j, k) for k in range(many) for j in range(k))


class TestWeight(unittest.TestCase):

    def test_by_hand(self):
        self.assertEqual(weight(TRIANGLE, (0, 1, 2)), (3, 2))
        self.assertEqual([weight(TRIANGLE, bag) for bag in ((0,), (0, 1), (0, 2))], [(1, 1)] * 3)
        self.assertEqual(weight(RING, (0, 1, 2, 3)), (2, 1))
        self.assertEqual(weight(RING, (0, 2)), (2, 1))
        self.assertEqual(weight(STAR, (0, 1, 2, 3)), (3, 1))
        self.assertEqual(weight(WIDE, tuple(range(8))), (8, 7))
        self.assertEqual(weight(LINES, tuple(range(7))), (7, 3))
        self.assertEqual(weight(ONE, (0,)), (1, 1))

    def test_against_all_covers(self):
        for query in (*all_queries(2, 3), *all_queries(3, 2), *some_queries(25, 4, 4, 1011), TRIANGLE, EQUAL):
            for bag in subsets(range(query[0]))[1:]:
                self.assertEqual(weight(query, bag), pair(plain_weight(query, bag)))

    def test_no_more_than_attributes_and_greater_bags(self):
        for query in some_queries(30, 5, 6, 1012):
            bags = subsets(range(query[0]))[1:]
            told = {bag: Fraction(*weight(query, bag)) for bag in bags}
            for bag in bags:
                self.assertTrue(1 <= told[bag] <= len(bag))
                for other in bags:
                    self.assertTrue(not set(bag) <= set(other) or told[bag] <= told[other])
            for atom in query[1]:
                self.assertEqual(told[atom], 1)


class TestWidth(unittest.TestCase):

    def check_one(self, query):
        told = width(query)
        paper = width_paper(query)
        self.assertEqual(paper[0], told)
        self.assertTrue(good_paper(query, paper))
        self.assertIs(is_width_paper(query, paper), True)
        self.assertEqual(told == (1, 1), is_acyclic(query))
        return told

    def test_by_hand(self):
        self.assertEqual((width(TRIANGLE), width(RING)), ((3, 2), (2, 1)))
        self.assertEqual(width(ring(3)), (3, 2))
        for many in range(4, 9):
            self.assertEqual(self.check_one(ring(many)), (2, 1))
        for many in range(2, 5):
            self.assertEqual(self.check_one(pairs(many)), pair(Fraction(many, 2)))
        self.assertEqual(self.check_one(WIDE), (8, 7))
        self.assertEqual(self.check_one(LINES), (7, 3))
        self.assertEqual(self.check_one(ONE), (1, 1))

    def test_all_orders(self):
        for query in (*all_queries(2, 3), *all_queries(3, 2), *NAMED, *some_queries(60, 6, 7, 1013)):
            told = self.check_one(query)
            if query[0] < 6:
                self.assertEqual(told, pair(plain_width(query)))
            self.assertEqual(told == (1, 1), has_ears(query))

    def test_all_trees_of_small_queries(self):
        for query in (PATH, TRIANGLE, (3, ((0, 1), (2,))), *all_queries(2, 2)):
            best = min(max(Fraction(*weight(query, bag)) for bag in tree[0]) for tree in all_bag_trees(query, 3))
            self.assertEqual(width(query), pair(best))

    def test_trees_of_orders_are_no_better(self):
        dice = Dice(1014)
        for query in some_queries(60, 8, 8, 1015):
            told = self.check_one(query)
            for _ in range(4):
                bags = bag_tree_of(query, an_order(dice, query))[0]
                self.assertGreaterEqual(max(Fraction(*weight(query, bag)) for bag in bags), Fraction(*told))

    def test_join_trees_have_weight_1(self):
        for query in some_queries(60, 6, 6, 1016):
            tree = tree_of(query)
            if tree is not None:
                self.assertEqual({weight(query, atom) for atom in query[1]}, {(1, 1)})
                self.assertEqual(width(query), (1, 1))

    def test_hierarchical_queries_are_acyclic(self):
        for query in hierarchical_queries(60, 7, 7, 1017):
            self.assertIs(is_acyclic(query), True)
            self.assertEqual(width(query), (1, 1))

    def test_other_names(self):
        dice = Dice(1018)
        for query in some_queries(50, 6, 6, 1019):
            places = an_order(dice, query)
            other = renamed(query, ((),) * len(query[1]), places)[0]
            self.assertEqual(width(other), width(query))


class TestPapers(unittest.TestCase):

    def test_any_value(self):
        for query in (TRIANGLE, ONE, PATH, (2, ((0, 1),)), RING):
            check_judge(self, lambda value: is_width_paper(query, value), lambda value: good_paper(query, value),
                        [width_paper(query)])
        deep = width_paper(TRIANGLE)
        for _ in range(55):
            deep = (deep, deep[0])
        self.assertIs(is_width_paper(TRIANGLE, deep), False)

    def test_other_papers(self):
        line = ((0,), (0, 1), (0, 2), (1,), (1, 2), (2,))
        told = ((3, 2), (((0, 1, 2),), (None,)), (((1, 1, 1), 2),), ((),), (((0, 1, 2), (1, 1, 1), 2),))
        self.assertIs(is_width_paper(TRIANGLE, told), True)
        for k, value, plain in ((0, (6, 4), False), (0, (2, 1), False), (0, (1, 1), False), (0, (3, 2), True),
                                (2, (((1, 1, 0), 1),), False), (2, (((2, 2, 2), 4),), True), (2, (((3, 3, 3), 6),), True),
                                (2, (((1, 1, 1), 1),), False), (2, (((LAST, LAST, LAST), LAST),), False), (2, (), False),
                                (3, (), False), (3, ((), (0,)), False), (3, ((0,),), False), (3, ((), (0, 1, 2)), False),
                                (3, ((), (1,), (0,)), False), (3, line, False), (3, ((),) + line, False), (3, ((), ()), False),
                                (4, (), False), (4, (((0, 1, 2), (2, 2, 2), 4),), True),
                                (4, (((0, 1, 2), (1, 1, 1), 2), ((0, 1), (1, 1), 1)), False),
                                (4, (((0, 1, 2), (1, 1, 1), 2), ((0,), (9, 0, 0), 9)), False),
                                (4, (((0, 1, 2), (0, 1, 1), 1),), False), (4, (((0, 1, 2), (1, 1, 1), 3),), False)):
            value = told[:k] + (value,) + told[k + 1:]
            self.assertEqual(good_paper(TRIANGLE, value), plain, value)
            self.assertIs(is_width_paper(TRIANGLE, value), plain, value)

    def test_all_papers_have_the_same_width(self):
        # No paper that is like a right one but for its width is taken.
        for query in some_queries(40, 5, 5, 1020):
            told = width_paper(query)
            for other in product(range(1, 6), repeat=2):
                if other != told[0]:
                    self.assertIs(is_width_paper(query, (other,) + told[1:]), False)

    def test_weights_outside_the_bag_are_not_looked_at(self):
        told = width_paper(PATH)
        self.assertEqual(told[0], (1, 1))
        bag, weights, denominator = told[4][0]
        other = tuple(n if a in bag else LAST for a, n in enumerate(weights))
        value = told[:4] + (((bag, other, denominator),) + told[4][1:],)
        self.assertEqual(good_paper(PATH, value), is_width_paper(PATH, value))
        self.assertIs(is_width_paper(PATH, value), True)


class TestWrong(unittest.TestCase):

    def test_wrong(self):
        for query, good in ((TRIANGLE, (0, 2)), (ONE, (0,)), (WIDE, tuple(range(8)))):
            check_guards(self, weight, (query, good), [QUERY, (BadBag, good_bag)])
        for function in (width, width_paper):
            check_guards(self, function, (TRIANGLE,), [QUERY])
        check_guards(self, is_width_paper, (TRIANGLE, None), [QUERY])


if __name__ == "__main__":
    unittest.main()
