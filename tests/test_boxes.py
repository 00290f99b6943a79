import unittest
from itertools import permutations, product

from coverjoin.boxes import holds, is_box, is_gap, lies_in, overlap, resolve, trie_gaps, unit, whole
from coverjoin.errors import BadAttribute, BadBox, BadIndex, BadMany, BadPoint
from helper import EQUAL, LAST, ONE, ORDER, PATH, QUERY, STORE, TRIANGLE, TRIANGLE_STORE, Dice, an_order, check_guards
from helper import check_judge, every_kind, good_box, number, numbers, part, plain_answers, samples, turned, wrong_values

# Stretches of few numbers, and of the last ones, which the points below tell apart.
STRETCHES = [(low, high) for low in range(4) for high in range(low, 4)] + [(low, None) for low in range(4)]
ENDS = [(LAST - 1, LAST - 1), (LAST - 1, None), (LAST, None), (0, LAST - 1), (0, None), (3, LAST - 1)]
POINTS = [0, 1, 2, 3, 4, 5, LAST - 2, LAST - 1, LAST]


def has(stretch, n):
    return stretch[0] <= n and (stretch[1] is None or n <= stretch[1])


def all_held(box):
    return {point for point in product(POINTS, repeat=len(box)) if all(has(s, n) for s, n in zip(box, point))}


def boxes(many, seed):
    dice = Dice(seed)
    for _ in range(many):
        width = 1 + dice.below(3)
        yield tuple(tuple(dice.one_of(STRETCHES + ENDS) for _ in range(width)) for _ in range(2)), dice.below(width)


def plain_trie_gaps(query, store, order):
    """The gaps as point 81 tells them, by going through all prefixes."""
    gaps = []
    for index, (atom, table) in enumerate(zip(query[1], store)):
        names = [a for a in order if a in atom]
        rows = [tuple(row[atom.index(a)] for a in names) for row in table]
        for length in range(len(names)):
            for prefix in sorted({row[:length] for row in rows} | ({()} if length == 0 else set())):
                follow = sorted({row[length] for row in rows if row[:length] == prefix})
                for low, high in zip([-1] + follow, follow + [LAST + 1]):
                    if high - low > 1:
                        box = [(0, None)] * query[0]
                        for a, n in zip(names, prefix):
                            box[a] = (n, n) if n < LAST else (n, None)
                        box[names[length]] = (low + 1, high - 1 if high <= LAST else None)
                        gaps.append((index, tuple(box)))
    return gaps


class TestBoxes(unittest.TestCase):

    def test_is_box(self):
        for stretch in STRETCHES + ENDS:
            self.assertIs(is_box(1, (stretch,)), True)
        for stretch in ((0, LAST), (LAST, LAST), (3, 2), (-1, 2), (0, -1), (LAST + 1, None), (0,), (0, 1, 2), [0, 1], (True, 1),
                        (0, True), (None, 3), (None, None), (0, False)):
            self.assertIs(is_box(1, (stretch,)), False)
        for many, sample in ((1, ((0, 3),)), (2, ((2, None), (0, 0))), (3, ((0, None),) * 3), (8, ((5, LAST - 1),) * 8)):
            check_judge(self, lambda value: is_box(many, value), lambda value: good_box(many, value), [sample])

    def test_whole_and_unit(self):
        for many in range(1, 9):
            self.assertEqual(whole(many), ((0, None),) * many)
            self.assertEqual(unit((7,) * many), ((7, 7),) * many)
        self.assertEqual(unit((0, LAST, LAST - 1)), ((0, 0), (LAST, None), (LAST - 1, LAST - 1)))
        for point in product(POINTS, repeat=2):
            self.assertTrue(good_box(2, unit(point)))
            self.assertEqual(all_held(unit(point)), {point})

    def test_holds(self):
        for (one, _), _ in boxes(200, 5):
            held = all_held(one)
            for point in product(POINTS, repeat=len(one)):
                self.assertIs(holds(one, point), point in held)

    def test_overlap_and_lies_in(self):
        told = set()
        for (one, other), _ in boxes(1500, 6):
            left, right = all_held(one), all_held(other)
            found = overlap(one, other)
            if found is None:
                self.assertFalse(left & right)
            else:
                self.assertTrue(good_box(len(one), found))
                self.assertEqual(all_held(found), left & right)
                self.assertTrue(left & right)
            self.assertIs(lies_in(one, other), left <= right)
            self.assertIs(lies_in(one, one), True)
            told.add((found is None, left <= right))
        self.assertEqual(told, {(True, False), (False, False), (False, True)})
        self.assertIs(lies_in(((0, LAST - 1),), ((0, None),)), True)
        self.assertIs(lies_in(((0, None),), ((0, LAST - 1),)), False)
        self.assertEqual(overlap(((LAST, None),), ((5, None),)), ((LAST, None),))

    def plain_resolvent(self, one, other, attribute):
        for k in range(len(one)):
            left, right = {n for n in POINTS if has(one[k], n)}, {n for n in POINTS if has(other[k], n)}
            beside = any(n + 1 in right for n in left) or any(n + 1 in left for n in right)
            if not left & right and not (k == attribute and beside):
                return None
        box = []
        for k in range(len(one)):
            lows, highs = [one[k][0], other[k][0]], [h for h in (one[k][1], other[k][1]) if h is not None]
            if k == attribute:
                box.append((min(lows), None if len(highs) < 2 else max(highs)))
            else:
                box.append((max(lows), min(highs) if highs else None))
        return tuple(box)

    def test_resolve(self):
        told = set()
        for (one, other), attribute in boxes(3000, 7):
            found = resolve(one, other, attribute)
            self.assertEqual(found, self.plain_resolvent(one, other, attribute))
            told.add(found is None)
            if found is not None:
                self.assertTrue(good_box(len(one), found))
                self.assertTrue(all_held(found) <= all_held(one) | all_held(other))
        self.assertEqual(told, {True, False})

    def test_resolve_by_hand(self):
        self.assertEqual(resolve(((0, 3), (0, 5)), ((4, None), (2, None)), 0), ((0, None), (2, 5)))
        self.assertIsNone(resolve(((0, 3), (0, 5)), ((5, None), (2, None)), 0))
        self.assertIsNone(resolve(((0, 3), (0, 5)), ((4, None), (6, None)), 0))
        self.assertIsNone(resolve(((0, 3), (0, 5)), ((4, None), (6, None)), 1))
        self.assertEqual(resolve(((0, 3), (0, 5)), ((3, 9), (6, None)), 1), ((3, 3), (0, None)))
        self.assertEqual(resolve(((LAST, None),), ((2, LAST - 1),), 0), ((2, None),))
        self.assertEqual(resolve(((2, LAST - 1),), ((LAST, None),), 0), ((2, None),))


class TestGaps(unittest.TestCase):

    def test_is_gap(self):
        dice = Dice(70)
        told = set()
        for query, store in samples(150, 3, 3, 4, 6, 700):
            for index, atom in enumerate(query[1]):
                for _ in range(8):
                    box = tuple(dice.one_of(STRETCHES + ENDS) for _ in range(query[0]))
                    plain = not any(all(has(box[a], n) for a, n in zip(atom, row)) for row in store[index])
                    told.add(plain)
                    self.assertIs(is_gap(query, store, index, box), plain)
        self.assertEqual(told, {True, False})

    def test_trie_gaps(self):
        dice = Dice(71)
        for query, store in samples(150, 4, 4, 4, 7, 710):
            order = an_order(dice, query)
            gaps = trie_gaps(query, store, order)
            self.assertIs(type(gaps), list)
            self.assertEqual(gaps, plain_trie_gaps(query, store, order))
            found = set(plain_answers(query, store))
            for index, gap in gaps:
                self.assertTrue(good_box(query[0], gap))
                self.assertIs(is_gap(query, store, index, gap), True)
            for index, table in enumerate(store):
                most = 2 * len(table) * len(query[1][index]) + 1
                self.assertLessEqual(sum(at == index for at, _ in gaps), most)
            for point in product(range(5), repeat=query[0]):
                held = any(all(has(s, n) for s, n in zip(gap, point)) for _, gap in gaps)
                self.assertEqual(held, point not in found)

    def test_trie_gaps_by_hand(self):
        line = (0, None)
        self.assertEqual(trie_gaps(ONE, ((),), (0,)), [(0, (line,))])
        self.assertEqual(trie_gaps(ONE, (((0,), (1,), (4,), (LAST,)),), (0,)), [(0, ((2, 3),)), (0, ((5, LAST - 1),))])
        self.assertEqual(trie_gaps(ONE, (((0,), (LAST - 1,)),), (0,)), [(0, ((1, LAST - 2),)), (0, ((LAST, None),))])
        self.assertEqual(trie_gaps(ONE, (((LAST - 2,),),), (0,)), [(0, ((0, LAST - 3),)), (0, ((LAST - 1, None),))])
        self.assertEqual(trie_gaps(PATH, (((LAST, 0),), ()), (0, 1, 2)),
                         [(0, ((0, LAST - 1), line, line)), (0, ((LAST, None), (1, None), line)), (1, (line, line, line))])
        self.assertEqual(trie_gaps(EQUAL, ((), ((0, 0),), ((0,),)), (1, 0)),
                         [(0, (line, line)), (1, (line, (1, None))), (1, ((1, None), (0, 0))), (2, (line, (1, None)))])

    def test_what_is_told_may_be_changed(self):
        gaps = trie_gaps(TRIANGLE, TRIANGLE_STORE, (0, 1, 2))
        gaps.clear()
        self.assertEqual(len(trie_gaps(TRIANGLE, TRIANGLE_STORE, (0, 1, 2))),
                         len(plain_trie_gaps(TRIANGLE, TRIANGLE_STORE, (0, 1, 2))))

    def test_every_point_is_an_answer_or_in_a_gap(self):
        dice = Dice(72)
        ends = [0, 1, LAST - 2, LAST - 1, LAST]
        for query in (PATH, EQUAL, TRIANGLE):
            for _ in range(20):
                store = tuple(tuple(sorted({tuple(dice.one_of(ends) for _ in atom) for _ in range(6)})) for atom in query[1])
                found = set(plain_answers(query, store))
                gaps = trie_gaps(query, store, an_order(dice, query))
                for point in product(ends + [2, LAST - 3], repeat=query[0]):
                    held = any(all(has(s, n) for s, n in zip(gap, point)) for _, gap in gaps)
                    self.assertEqual(held, point not in found)

    def test_all_orders(self):
        for order in permutations(range(3)):
            self.assertEqual(trie_gaps(TRIANGLE, TRIANGLE_STORE, order), plain_trie_gaps(TRIANGLE, TRIANGLE_STORE, order))
            self.assertEqual(turned((5, 6, 7), order), part((5, 6, 7), order))


class TestWrong(unittest.TestCase):

    def test_wrong(self):
        many = (BadMany, lambda many: number(many) and 1 <= many <= 8)
        point = (BadPoint, lambda point: type(point) is tuple and 1 <= len(point) <= 8 and numbers(point, len(point), 0))
        some_box = (BadBox, lambda box: type(box) is tuple and 1 <= len(box) <= 8 and good_box(len(box), box))
        as_many = (BadBox, lambda one, other: good_box(len(one), other))
        there = (BadPoint, lambda box, point: numbers(point, len(box), 0))
        attribute = (BadAttribute, lambda one, other, a: number(a) and a in range(len(one)))
        index = (BadIndex, lambda query, store, index: number(index) and index in range(len(store)))
        box = (BadBox, lambda query, store, index, box: good_box(query[0], box))
        for width in (1, 2, 8):
            one, other = ((0, 5),) * width, ((3, None),) * width
            check_guards(self, whole, (width,), [many])
            check_guards(self, is_box, (width, one), [many])
            for n in (0, 3):
                check_guards(self, unit, ((n,) * width,), [point])
                check_guards(self, holds, (one, (n,) * width), [some_box, there])
            for function in (overlap, lies_in):
                check_guards(self, function, (one, other), [some_box, as_many])
            check_guards(self, resolve, (one, other, width - 1), [some_box, as_many, attribute])
        check_guards(self, is_gap, (TRIANGLE, TRIANGLE_STORE, 2, ((0, 5),) * 3), [QUERY, STORE, index, box])
        check_guards(self, trie_gaps, (TRIANGLE, TRIANGLE_STORE, (2, 0, 1)), [QUERY, STORE, ORDER])

    def test_no_box_at_all(self):
        for value in every_kind() + [((0, 1),) * 9, ()]:
            if not (type(value) is tuple and 1 <= len(value) <= 8 and good_box(len(value), value)):
                for function in (holds, overlap, lies_in):
                    with self.assertRaises(BadBox):
                        function(value, value)
        for value in wrong_values((3, LAST)):
            if not (type(value) is tuple and 1 <= len(value) <= 8 and numbers(value, len(value), 0)):
                with self.assertRaises(BadPoint):
                    unit(value)


if __name__ == "__main__":
    unittest.main()
