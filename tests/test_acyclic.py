import unittest
from itertools import permutations, product

from coverjoin.acyclic import after, is_acyclic, is_knot, is_layout, is_tree, knot, knot_store, reduction, rooted, shared
from coverjoin.acyclic import tree_by, tree_of
from coverjoin.answers import answers
from coverjoin.errors import BadAtom, BadCut, BadCuts, BadLayout, BadTree, NoKnot
from coverjoin.tables import renamed
from helper import COVERED, LINES, NAMED, ONE, PARTS, PATH, QUERY, RING, STAR, TRIANGLE, WIDE, Dice, all_queries, an_order
from helper import check_guards, check_judge, every_kind, good_knot, good_layout, good_store, good_tree, has_ears, number
from helper import plain_agree, raised, small_queries, some_queries, spoilt, subsets, wrong_values


RINGS = [(many, tuple((k, k + 1) for k in range(many - 1)) + ((0, many - 1),)) for many in range(4, 9)]
# Rings with lone attributes, further ones, and equal atoms.
RINGS += [(6, ((0, 1), (1, 2), (2, 3), (3, 4), (0, 4, 5), (0,), (4,), (5,))),
          (5, ((0, 2), (1, 2), (1, 3), (3, 4), (0, 4), (0, 4), (1,), (2,)))]


def queries():
    yield from small_queries()
    yield from list(all_queries(4, 3))[::11]
    yield from some_queries(120, 6, 6, 210)
    yield from some_queries(30, 8, 8, 220)
    yield from NAMED
    yield COVERED
    yield from RINGS


def few_queries():
    yield from list(small_queries())[::3]
    yield from some_queries(40, 4, 4, 230)
    yield from (TRIANGLE, RING, PATH, STAR, PARTS, COVERED)


def all_layouts(query):
    many = len(query[1])
    for value in product(range(many), repeat=many):
        if good_layout(query, value):
            yield value


def all_knots(query):
    """All knots, those with the fewest attributes first, then by their attributes, sorted."""
    found = []
    for attributes in subsets(range(query[0])):
        values = [("lot", attributes)] + [("ring", ring) for ring in permutations(attributes)]
        found += [value for value in values if good_knot(query, value)]
    return sorted(found, key=lambda value: (len(value[1]), sorted(value[1])))


def plain_after(query, cuts):
    """The rests behind cuts, or the place of the first that is none or cannot be done."""
    rests = [set(atom) for atom in query[1]]
    for at, cut in enumerate(cuts):
        if type(cut) is not tuple or len(cut) != 3 or not (number(cut[1]) and number(cut[2])):
            return at
        word, one, other = cut
        if type(word) is not str or other not in range(len(rests)) or rests[other] is None:
            return at
        if word == "lone":
            if one not in rests[other] or any(rest and one in rest for k, rest in enumerate(rests) if k != other):
                return at
            rests[other] = rests[other] - {one}
        elif word == "within":
            if one not in range(len(rests)) or one == other or rests[one] is None or not rests[one] <= rests[other]:
                return at
            rests[one] = None
        else:
            return at
    return tuple(None if rest is None else tuple(sorted(rest)) for rest in rests)


def possible(query, cuts):
    """The cuts that can be done behind these."""
    every = [("lone", a, k) for a in range(query[0]) for k in range(len(query[1]))]
    every += [("within", j, k) for j in range(len(query[1])) for k in range(len(query[1]))]
    return [cut for cut in every if type(plain_after(query, cuts + (cut,))) is tuple]


class TestTrees(unittest.TestCase):

    def test_judges(self):
        for query in few_queries():
            if len(query[1]) <= 4:
                for value in product(range(len(query[1])), repeat=len(query[1])):
                    self.assertIs(is_layout(query, value), good_layout(query, value))
                    self.assertIs(is_tree(query, value), good_tree(query, value))

    def test_judges_of_any_value(self):
        for query, sample in ((TRIANGLE, (0, 0, 1)), (COVERED, (3, 3, 3, 3)), (ONE, (0,)), (PATH, (1, 1))):
            check_judge(self, lambda value: is_layout(query, value), lambda value: good_layout(query, value), [sample])
            check_judge(self, lambda value: is_tree(query, value), lambda value: good_tree(query, value), [sample])

    def test_tree_of(self):
        for query in queries():
            tree = tree_of(query)
            self.assertIs(is_acyclic(query), tree is not None)
            self.assertEqual(tree is not None, has_ears(query), query)
            if tree is not None:
                self.assertTrue(good_tree(query, tree), query)

    def test_most_shared(self):
        for query in few_queries():
            most = sum(len(atom) for atom in query[1]) - query[0]
            for layout in all_layouts(query):
                told = sum(len(set(query[1][k]) & set(query[1][up])) for k, up in enumerate(layout) if k != up)
                self.assertEqual(shared(query, layout), told)
                self.assertLessEqual(told, most)
                self.assertEqual(told == most, good_tree(query, layout))

    def test_whether_there_is_a_tree_hangs_on_the_query_alone(self):
        dice = Dice(9)
        for query in queries():
            told = is_acyclic(query)
            places = an_order(dice, query)
            empty = tuple(() for _ in query[1])
            self.assertIs(is_acyclic(renamed(query, empty, places)[0]), told)
            self.assertIs(is_acyclic((query[0], query[1][::-1])), told)
            if len(query[1]) < 8:
                atom = query[1][dice.below(len(query[1]))]
                less = tuple(a for a in atom if dice.below(2)) or atom
                self.assertIs(is_acyclic((query[0], query[1] + (less,))), told)

    def test_rooted(self):
        for query in queries():
            tree = tree_of(query)
            for atom in range(len(query[1]) if tree else 0):
                turned = rooted(query, tree, atom)
                self.assertTrue(good_tree(query, turned))
                self.assertEqual(turned[atom], atom)
                links = {frozenset((k, up)) for k, up in enumerate(tree) if k != up}
                self.assertEqual({frozenset((k, up)) for k, up in enumerate(turned) if k != up}, links)

    def test_by_hand(self):
        self.assertIs(is_tree(COVERED, (3, 3, 3, 3)), True)
        self.assertIsNone(tree_of(TRIANGLE))
        self.assertEqual(tree_of(ONE), (0,))
        self.assertEqual(rooted(PATH, (0, 0), 1), (1, 1))

    def test_wrong(self):
        layout = (BadLayout, lambda query, value: good_layout(query, value))
        tree = (BadTree, lambda query, value: good_tree(query, value))
        atom = (BadAtom, lambda query, value, atom: number(atom) and atom in range(len(query[1])))
        for function in (tree_of, is_acyclic, reduction, knot, knot_store):
            check_guards(self, function, (TRIANGLE,), [QUERY])
        for function in (is_layout, is_tree, is_knot):
            check_guards(self, function, (TRIANGLE, (0, 0, 1)), [QUERY])
        check_guards(self, shared, (TRIANGLE, (0, 0, 1)), [QUERY, layout])
        check_guards(self, rooted, (COVERED, (3, 3, 3, 3), 1), [QUERY, tree, atom])
        check_guards(self, rooted, (PATH, (1, 1), 0), [QUERY, tree, atom])


class TestCuts(unittest.TestCase):

    def test_reduction(self):
        for query in queries():
            cuts = reduction(query)
            self.assertIs(type(cuts), tuple)
            rests = after(query, cuts)
            self.assertEqual(rests, plain_after(query, cuts))
            self.assertEqual(possible(query, cuts), [])
            left = [rest for rest in rests if rest is not None]
            self.assertEqual(left == [()], has_ears(query))
            tree = tree_by(query, cuts)
            self.assertEqual(tree is not None, has_ears(query))
            self.assertTrue(tree is None or good_tree(query, tree))

    def test_all_sequences_of_cuts(self):
        for query in (TRIANGLE, PATH, (2, ((0,), (0, 1), (1,))), (3, ((0, 1), (1,), (1, 2))), (1, ((0,), (0,), (0,)))):
            ends = set()
            self.go_on(query, (), ends)
            self.assertEqual(len(ends), 1)

    def go_on(self, query, cuts, ends):
        further = possible(query, cuts)
        self.assertEqual(after(query, cuts), plain_after(query, cuts))
        if not further:
            rests = after(query, cuts)
            ends.add(tuple(sorted(rest for rest in rests if rest is not None)))
            tree = tree_by(query, cuts)
            if has_ears(query):
                self.assertTrue(good_tree(query, tree))
                told = {one: other for word, one, other in cuts if word == "within"}
                self.assertEqual(tree, tuple(told.get(k, k) for k in range(len(rests))))
            else:
                self.assertIsNone(tree)
        for cut in further:
            self.go_on(query, cuts + (cut,), ends)

    def test_cuts_by_chance_end_alike(self):
        dice = Dice(12)
        for query in queries():
            cuts = ()
            while possible(query, cuts):
                cuts += (dice.one_of(possible(query, cuts)),)
            rests = [sorted(rest for rest in after(query, told) if rest is not None) for told in (cuts, reduction(query))]
            self.assertEqual(rests[0], rests[1])
            tree = tree_by(query, cuts)
            self.assertTrue(tree is None or good_tree(query, tree))

    def test_wrong_cuts(self):
        for query in (PATH, COVERED, STAR, TRIANGLE):
            cuts = reduction(query)
            for value in spoilt(cuts):
                self.cuts(query, value)
            for k in range(len(cuts) + 1):
                for cut in every_kind() + [("lone", 0, 0), ("within", 0, 0), ("within", 0, 1), ("lone", 2, 1), ("in", 0, 1)]:
                    self.cuts(query, cuts[:k] + (cut,) + cuts[k:])
        for value in every_kind():
            self.cuts(PATH, value)

    def cuts(self, query, value):
        for function in (after, tree_by):
            error = raised(function, query, value)
            if type(value) is not tuple:
                self.assertIs(type(error), BadCuts, value)
            elif type(plain_after(query, value)) is int:
                self.assertIs(type(error), BadCut, value)
                self.assertEqual(error.at, plain_after(query, value))
            else:
                self.assertIsNone(error, value)
                self.assertEqual(after(query, value), plain_after(query, value))
        if type(value) is tuple and value[1:2] and type(plain_after(query, value[:1])) is tuple:
            self.assertIsNone(raised(after, query, value[:1]))

    def test_tree_by_of_cuts_that_leave_more(self):
        self.assertIsNone(tree_by(PATH, ()))
        self.assertIsNone(tree_by(PATH, (("lone", 0, 0), ("within", 0, 1))))
        self.assertEqual(tree_by(PATH, (("lone", 0, 0), ("within", 0, 1), ("lone", 1, 1), ("lone", 2, 1))), (1, 1))
        self.assertEqual(tree_by(ONE, (("lone", 0, 0),)), (0,))
        self.assertIsNone(tree_by((2, ((0,), (1,))), (("lone", 0, 0),)))
        self.assertIsNone(tree_by((2, ((0,), (1,))), (("lone", 1, 1),)))
        self.assertIsNone(tree_by((2, ((0,), (1,))), (("lone", 0, 0), ("lone", 1, 1))))
        self.assertEqual(tree_by((2, ((0,), (1,))), (("lone", 0, 0), ("within", 0, 1), ("lone", 1, 1))), (1, 1))

    def test_query_comes_first(self):
        for function in (after, tree_by):
            for value in ((), None):
                check_guards(self, function, (TRIANGLE, value), [QUERY])


class TestKnots(unittest.TestCase):

    def test_exactly_one_of_the_two(self):
        for query in queries():
            found = knot(query)
            self.assertEqual(found is None, has_ears(query), query)
            if found is not None:
                self.assertTrue(good_knot(query, found))
                self.assertIs(is_knot(query, found), True)

    def test_the_first_of_all(self):
        for query in list(all_queries(4, 3))[::29] + list(some_queries(60, 6, 6, 240)) + [RING, LINES, WIDE][:2]:
            every = all_knots(query)
            self.assertEqual(knot(query), every[0] if every else None)

    def test_by_hand(self):
        self.assertEqual(knot(TRIANGLE), ("lot", (0, 1, 2)))
        self.assertEqual(knot(RING), ("ring", (0, 1, 2, 3)))
        self.assertEqual(knot(WIDE), ("lot", tuple(range(8))))
        self.assertEqual(reduction(TRIANGLE), ())
        self.assertEqual(knot_store(TRIANGLE), (((0, 1), (1, 0)),) * 3)

    def test_is_knot(self):
        for query in (TRIANGLE, RING, LINES, COVERED, (4, ((0, 2), (2, 1), (1, 3), (0, 3)))):
            query = (query[0], tuple(tuple(sorted(atom)) for atom in query[1]))
            for attributes in subsets(range(min(query[0], 6))):
                for told in permutations(attributes):
                    for word in ("lot", "ring", "tree"):
                        self.assertIs(is_knot(query, (word, told)), good_knot(query, (word, told)))
        for query in (TRIANGLE, RING, WIDE):
            sample = knot(query)
            check_judge(self, lambda value: is_knot(query, value), lambda value: good_knot(query, value), [sample])

    def test_knot_store(self):
        for query in queries():
            if has_ears(query):
                for _ in range(2):
                    with self.assertRaises(NoKnot):
                        knot_store(query)
                continue
            store = knot_store(query)
            self.assertTrue(good_store(query, store))
            self.assertTrue(all(1 <= len(table) <= 7 for table in store))
            self.assertTrue(all(n in (0, 1) for table in store for row in table for n in row))
            self.assertTrue(plain_agree(query, store), query)
            self.assertEqual(answers(query, store), ())

    def test_values_of_every_kind(self):
        for value in wrong_values(("lot", (0, 1, 2))):
            self.assertIs(is_knot(TRIANGLE, value), good_knot(TRIANGLE, value))


if __name__ == "__main__":
    unittest.main()
