import unittest
from itertools import permutations, product

from coverjoin.boxes import is_gap, trie_gaps
from coverjoin.covering import covers_all
from coverjoin.errors import BadNumber
from coverjoin.papers import gaps_met, lacks_none, paper_of, skew, walk_levels
from helper import EQUAL, LAST, ONE, ORDER, PATH, QUERY, RING, STORE, TRIANGLE, TRIANGLE_STORE, WIDE, Dice, agrees
from helper import all_stores, an_order, candidates, check_guards, check_judge, good_cover, good_paper, holds_plainly
from helper import number, plain_answers, powers_of, samples, some_query, some_store

LINE = (0, None)


def plain_walk(query, store, order):
    """The gaps in the sequence of all meetings, and the levels, as point 83 tells them."""
    many = query[0]
    met, levels = [], [[0, 0, 0] for _ in range(many)]

    def go(known):
        level = len(known)
        if level == many:
            return
        attribute = order[level]
        lists = {}
        for at, atom in enumerate(query[1]):
            if attribute in atom:
                rows = [row for row in store[at] if agrees(atom, row, order, known)]
                lists[at] = sorted({row[atom.index(attribute)] for row in rows})
        levels[level][0] += 1
        levels[level][1] += min(len(told) for told in lists.values())
        n = 0
        while n <= LAST:
            without = [at for at in lists if n not in lists[at]]
            if not without:
                go(known + (n,))
                n += 1
                continue
            best, least = None, None
            for at in without:
                above = min([k for k in lists[at] if k > n], default=LAST + 1)
                if best is None or above > best:
                    best, least = above, at
            low = max([k + 1 for k in lists[least] if k < n], default=0)
            box = [LINE] * many
            for a, k in zip(order, known):
                if a in query[1][least]:
                    box[a] = (k, k if k < LAST else None)
            box[attribute] = (low, best - 1 if best <= LAST else None)
            met.append((least, tuple(box)))
            levels[level][2] += 1
            n = best
    go(())
    return met, [tuple(told) for told in levels]


def each_once(items):
    return list(dict.fromkeys(items))


class TestWalk(unittest.TestCase):

    def check_one(self, query, store, order):
        met, levels = plain_walk(query, store, order)
        found = gaps_met(query, store, order)
        self.assertIs(type(found), list)
        self.assertEqual(found, each_once(met))
        told = walk_levels(query, store, order)
        self.assertIs(type(told), list)
        self.assertEqual(told, levels)
        paper = paper_of(query, store, order)
        self.assertTrue(good_paper(query, store, paper))
        self.assertEqual(paper[:2], (plain_answers(query, store), tuple(found)))
        self.assertIs(lacks_none(query, store, paper), True)
        self.assertIs(covers_all(query[0], [box for _, box in found], paper[0], paper[2]), True)
        self.check_bound(query, store, told)

    def check_bound(self, query, store, levels):
        sizes = tuple(len(table) for table in store)
        for prefixes, gone, gaps in levels:
            self.assertLessEqual(gaps, 2 * gone + prefixes)
        if 0 not in sizes and len(query[1]) < 5:
            for cover in candidates(query, 2):
                if good_cover(query, cover):
                    most = powers_of(sizes, cover[0])
                    for prefixes, gone, gaps in levels:
                        self.assertLessEqual(gone ** cover[1], most)
                        self.assertLessEqual(prefixes ** cover[1], most)
                        self.assertLessEqual(gaps ** cover[1], 3 ** cover[1] * most)

    def test_by_a_fixed_rule(self):
        dice = Dice(831)
        for query, store in samples(250, 4, 4, 4, 8, 832):
            self.check_one(query, store, an_order(dice, query))

    def test_all_small_stores(self):
        for query in ((1, ((0,), (0,))), (2, ((0,), (0, 1))), (2, ((0, 1), (1,)))):
            for store in all_stores(query, 2):
                for order in permutations(range(query[0])):
                    self.check_one(query, store, order)

    def test_all_orders(self):
        dice = Dice(833)
        for query in (TRIANGLE, PATH, EQUAL):
            for _ in range(6):
                store = some_store(dice, query, 4, 9)
                for order in permutations(range(query[0])):
                    self.check_one(query, store, order)

    def test_the_last_numbers(self):
        dice = Dice(834)
        ends = [0, 1, LAST - 2, LAST - 1, LAST]
        for query in (ONE, (1, ((0,), (0,))), PATH, EQUAL, TRIANGLE):
            for _ in range(25):
                store = tuple(tuple(sorted({tuple(dice.one_of(ends) for _ in atom) for _ in range(dice.below(7))}))
                              for atom in query[1])
                self.check_one(query, store, an_order(dice, query))

    def test_eight_attributes(self):
        dice = Dice(835)
        for _ in range(3):
            self.check_one(WIDE, some_store(dice, WIDE, 2, 5), an_order(dice, WIDE))

    def test_points_are_answers_or_in_gaps_met(self):
        dice = Dice(836)
        for query, store in samples(80, 3, 3, 3, 6, 837):
            found = set(plain_answers(query, store))
            gaps = gaps_met(query, store, an_order(dice, query))
            for index, gap in gaps:
                self.assertTrue(is_gap(query, store, index, gap))
            for point in product(range(4), repeat=query[0]):
                self.assertEqual(any(holds_plainly(gap, point) for _, gap in gaps), point not in found)

    def test_gaps_met_are_of_the_tries(self):
        dice = Dice(838)
        for query, store in samples(80, 4, 4, 4, 8, 839):
            order = an_order(dice, query)
            self.assertLessEqual(set(gaps_met(query, store, order)), set(trie_gaps(query, store, order)))


class TestByHand(unittest.TestCase):

    def test_point_84(self):
        query, store = (2, ((0,), (1,))), (((1,),), ((0,), (1,)))
        gaps = [(0, ((0, 0), LINE)), (1, (LINE, (2, None))), (0, ((2, None), LINE))]
        self.assertEqual(gaps_met(query, store, (0, 1)), gaps)
        self.assertEqual(walk_levels(query, store, (0, 1)), [(1, 1, 2), (1, 2, 1)])
        self.assertEqual(paper_of(query, store, (0, 1))[:2], (((1, 0), (1, 1)), tuple(gaps)))

    def test_an_empty_table(self):
        for order in ((0, 1), (1, 0)):
            self.assertEqual(gaps_met(EQUAL, ((), ((0, 0),), ((0,),)), order), [(0, (LINE, LINE))])
            self.assertEqual(walk_levels(EQUAL, ((), ((0, 0),), ((0,),)), order), [(1, 0, 1), (0, 0, 0)])
            self.assertEqual(paper_of(EQUAL, ((), ((0, 0),), ((0,),)), order), ((), ((0, (LINE, LINE)),), (("box", 0),)))

    def test_the_least_atom_of_several(self):
        query = (1, ((0,), (0,)))
        self.assertEqual(gaps_met(query, (((3,),), ((3,),)), (0,)), [(0, ((0, 2),)), (0, ((4, None),))])
        self.assertEqual(gaps_met(query, (((3,),), ((5,),)), (0,)), [(1, ((0, 4),)), (0, ((4, None),))])
        self.assertEqual(gaps_met(query, (((5,),), ((3,),)), (0,)), [(0, ((0, 4),)), (1, ((4, None),))])

    def test_one_answer(self):
        self.assertEqual(paper_of(ONE, (((0,),),), (0,))[:2], (((0,),), ((0, ((1, None),)),)))
        self.assertEqual(paper_of(ONE, (((LAST,),),), (0,))[:2], (((LAST,),), ((0, ((0, LAST - 1),)),)))

    def test_a_gap_that_is_met_twice_stands_there_once(self):
        query, store = (2, ((0,), (1,))), (((0,), (1,), (2,)), ((0,),))
        self.assertEqual(gaps_met(query, store, (0, 1)), [(1, (LINE, (1, None))), (0, ((3, None), LINE))])
        self.assertEqual(walk_levels(query, store, (0, 1)), [(1, 3, 1), (3, 3, 3)])


class TestSizes(unittest.TestCase):

    def check_paper(self, query, store, order):
        paper = paper_of(query, store, order)
        self.assertTrue(good_paper(query, store, paper))
        self.assertIs(lacks_none(query, store, paper), True)
        self.assertEqual(list(paper[1]), gaps_met(query, store, order))
        return paper

    def test_skew(self):
        self.assertEqual(skew(1), ((2, ((0, 1), (1,))), (((0, 0),), ((1,),))))
        self.assertEqual(skew(3), ((2, ((0, 1), (1,))), (((0, 0), (1, 0), (2, 0)), ((1,),))))
        for size in (1, 2, 3, 10, 399, 400):
            query, store = skew(size)
            self.assertEqual(len(store[0]), size)
            self.assertEqual(len(gaps_met(query, store, (0, 1))), size + 2)
            self.assertEqual(len(gaps_met(query, store, (1, 0))), 2)
            for order in ((0, 1), (1, 0)):
                self.assertEqual(self.check_paper(query, store, order)[0], ())

    def test_triangles_with_thirty_numbers(self):
        dice = Dice(840)
        for rows in (100, 400):
            store = some_store(dice, TRIANGLE, 30, rows)
            for order in permutations(range(3)):
                self.check_paper(TRIANGLE, store, order)

    def test_many_answers(self):
        row = tuple((n,) for n in range(27))
        query, store = (3, ((0,), (1,), (2,))), (row, row, row)
        paper = self.check_paper(query, store, (2, 0, 1))
        self.assertEqual((len(paper[0]), len(paper[1])), (27 ** 3, 3))
        # Far more known numbers than could be gone through.
        row = tuple((2 * n,) for n in range(400))
        query, store = (8, tuple((a,) for a in range(8))), (row,) * 8
        self.assertEqual(len(gaps_met(query, store, tuple(range(8)))), 8 * 400)
        levels = [(400 ** k, 400 ** (k + 1), 400 ** (k + 1)) for k in range(8)]
        self.assertEqual(walk_levels(query, store, tuple(range(8))), levels)

    def test_ring(self):
        dice = Dice(841)
        store = some_store(dice, RING, 12, 60)
        for order in ((0, 1, 2, 3), (0, 2, 1, 3), (3, 1, 0, 2)):
            self.check_paper(RING, store, order)


class TestLacksNone(unittest.TestCase):

    def test_any_value(self):
        for query, store in ((TRIANGLE, TRIANGLE_STORE), (ONE, (((3,),),)), (ONE, ((),)), (EQUAL, ((), (), ()))):
            paper = paper_of(query, store, tuple(range(query[0])))
            check_judge(self, lambda value: lacks_none(query, store, value),
                        lambda value: good_paper(query, store, value), [paper])
        deep = paper_of(TRIANGLE, TRIANGLE_STORE, (0, 1, 2))
        for _ in range(50):
            deep = (deep, ())
        self.assertIs(lacks_none(TRIANGLE, TRIANGLE_STORE, deep), False)

    def test_papers_of_one_store_for_another(self):
        dice = Dice(842)
        told = {True: 0, False: 0}
        for _ in range(300):
            query = some_query(dice, 2, 2)
            store, other = some_store(dice, query, 2, 3), some_store(dice, query, 2, 3)
            paper = paper_of(query, other, an_order(dice, query))
            plain = good_paper(query, store, paper)
            told[plain] += 1
            self.assertIs(lacks_none(query, store, paper), plain)
            if plain:
                self.assertEqual(paper[0], plain_answers(query, store))
        self.assertGreater(min(told.values()), 20)

    def test_no_answer_may_lack(self):
        dice = Dice(843)
        for query, store in samples(40, 3, 3, 3, 6, 844):
            found, gaps, lines = paper_of(query, store, an_order(dice, query))
            for k in range(len(found)):
                less = found[:k] + found[k + 1:]
                self.assertIs(lacks_none(query, store, (less, gaps, lines)), good_paper(query, store, (less, gaps, lines)))
            self.assertIs(lacks_none(query, store, (found, list(gaps), lines)), False)
            self.assertIs(lacks_none(query, store, [found, gaps, lines]), False)
            self.assertIs(lacks_none(query, store, (found, gaps, list(lines))), False)
            self.assertIs(lacks_none(query, store, (found[::-1], gaps, lines)),
                          good_paper(query, store, (found[::-1], gaps, lines)))

    def test_gaps_that_are_none(self):
        line = (LINE,)
        lines = (("box", 0),)
        self.assertIs(lacks_none(ONE, ((),), ((), ((0, line),), lines)), True)
        self.assertIs(lacks_none(ONE, (((5,),),), ((), ((0, line),), lines)), False)
        joins = (("box", 0), ("box", 1), ("join", 0, 1, 0))
        self.assertIs(lacks_none(ONE, (((5,),),), ((), ((0, ((6, None),)), (0, ((0, 4),))), joins)), False)
        self.assertIs(lacks_none(ONE, ((),), (((0,),), ((0, line),), lines)), False)
        self.assertIs(lacks_none(ONE, ((),), ((), ((1, line),), lines)), False)
        self.assertIs(lacks_none(ONE, ((),), ((), ((False, line),), lines)), False)
        self.assertIs(lacks_none(ONE, ((),), ((), ((0, line), (0, ((0, LAST),))), lines)), False)


class TestWrong(unittest.TestCase):

    def test_wrong(self):
        for function in (gaps_met, walk_levels, paper_of):
            check_guards(self, function, (TRIANGLE, TRIANGLE_STORE, (2, 0, 1)), [QUERY, STORE, ORDER])
            check_guards(self, function, (ONE, ((),), (0,)), [QUERY, STORE, ORDER])
        check_guards(self, lacks_none, (TRIANGLE, TRIANGLE_STORE, None), [QUERY, STORE])
        size = (BadNumber, lambda size: number(size) and 1 <= size <= 400)
        for good in (1, 400):
            check_guards(self, skew, (good,), [size])

    def test_what_is_returned_may_be_changed(self):
        for function in (gaps_met, walk_levels):
            told = function(PATH, (((0, 0),), ((0, 1),)), (0, 1, 2))
            before = list(told)
            told.append(None)
            self.assertEqual(function(PATH, (((0, 0),), ((0, 1),)), (0, 1, 2)), before)


if __name__ == "__main__":
    unittest.main()
