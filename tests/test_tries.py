import unittest
from itertools import permutations

from coverjoin.errors import BadAtom, BadNumber, BadOrder, BadStart
from coverjoin.tries import Trie
from helper import EQUAL, LAST, ONE, QUERY, STORE, TRIANGLE, TRIANGLE_STORE, Dice, check_guards, every_kind, good_order
from helper import number, part, some_queries, some_store, wrong_values

TABLE = ((0, 5, LAST), (0, 5, 0), (2, 0, 0), (2, 7, 1), (2, 9, 1))
QUERY_OF_THREE = (3, ((0, 1, 2),))
STORE_OF_THREE = (tuple(sorted(TABLE)),)


def plain_start(turned, value):
    """Whether any value is a start, by looking through all turned rows."""
    if type(value) is not tuple or not all(number(item) for item in value):
        return False
    return any(row[:len(value)] == value for row in turned)


def tries():
    dice = Dice(3)
    for query in some_queries(80, 4, 4, 20):
        store = some_store(dice, query, 4, 8)
        for order in list(permutations(range(query[0])))[::3]:
            for at, atom in enumerate(query[1]):
                attributes = [a for a in order if a in atom]
                turned = sorted(part(row, [atom.index(a) for a in attributes]) for row in store[at])
                yield Trie(query, store, order, at), tuple(attributes), turned


class TestTrie(unittest.TestCase):

    def test_attributes_and_rows(self):
        for trie, attributes, turned in tries():
            self.assertEqual(trie.attributes, attributes)
            self.assertEqual(trie.rows(), tuple(turned))

    def test_turned(self):
        trie = Trie(QUERY_OF_THREE, STORE_OF_THREE, (1, 2, 0), 0)
        self.assertEqual(trie.attributes, (1, 2, 0))
        self.assertEqual(trie.rows(), ((0, 0, 2), (5, 0, 0), (5, LAST, 0), (7, 1, 2), (9, 1, 2)))
        self.assertEqual(trie.next_numbers(()), (0, 5, 7, 9))
        self.assertEqual(trie.next_numbers((5,)), (0, LAST))
        self.assertEqual((trie.many(()), trie.many((5,)), trie.many((5, 0, 0))), (5, 2, 1))

    def test_starts(self):
        for trie, attributes, turned in tries():
            starts = {row[:k] for row in turned for k in range(len(row) + 1)}
            for start in starts:
                self.assertIs(start in trie, True)
                self.assertEqual(trie.many(start), sum(row[:len(start)] == start for row in turned))
                if len(start) < len(attributes):
                    behind = sorted({row[len(start)] for row in turned if row[:len(start)] == start})
                    self.assertEqual(trie.next_numbers(start), tuple(behind))
                    self.asked(trie, start, behind)
                else:
                    for call in ((trie.next_numbers, start), (trie.seek, start, 0), (trie.hole, start, 0)):
                        with self.assertRaises(BadStart):
                            call[0](*call[1:])
            for value in every_kind():
                self.assertIs(value in trie, plain_start(turned, value), value)

    def asked(self, trie, start, behind):
        for value in range(6):
            above = [n for n in behind if n >= value]
            below = [n for n in behind if n < value]
            self.assertEqual(trie.seek(start, value), min(above, default=None))
            hole = None if value in behind else (max(below, default=None), min(above, default=None))
            self.assertEqual(trie.hole(start, value), hole)

    def test_ends(self):
        trie = Trie(ONE, (((3,), (LAST,)),), (0,), 0)
        self.assertEqual(trie.seek((), LAST), LAST)
        self.assertIsNone(trie.hole((), LAST))
        self.assertEqual(trie.hole((), LAST - 1), (3, LAST))
        self.assertEqual(trie.hole((), 0), (None, 3))
        less = Trie(ONE, (((3,),),), (0,), 0)
        self.assertEqual(less.hole((), LAST), (3, None))
        self.assertIsNone(less.seek((), 4))

    def test_no_rows_no_start(self):
        trie = Trie(EQUAL, ((), ((0, 1),), ()), (1, 0), 0)
        self.assertEqual((trie.rows(), trie.attributes), ((), (1, 0)))
        self.assertIs(() in trie, False)
        for call in ((trie.many, ()), (trie.next_numbers, ()), (trie.seek, (), 0), (trie.hole, (), None)):
            with self.assertRaises(BadStart):
                call[0](*call[1:])

    def test_any_value(self):
        trie = Trie(QUERY_OF_THREE, STORE_OF_THREE, (1, 2, 0), 0)
        for start in ((), (5,), (5, LAST), (7, 1, 2), (0, 0)):
            for value in wrong_values(start):
                plain = plain_start(trie.rows(), value)
                self.assertIs(value in trie, plain, value)
                for call in ((trie.many, value), (trie.next_numbers, value), (trie.seek, value, 0),
                             (trie.hole, value, 0), (trie.seek, value, None), (trie.hole, value, -1)):
                    if not plain or (call[0] != trie.many and len(value) == 3):
                        with self.assertRaises(BadStart):
                            call[0](*call[1:])

    def test_wrong_numbers(self):
        trie = Trie(QUERY_OF_THREE, STORE_OF_THREE, (1, 2, 0), 0)
        for value in every_kind():
            if not number(value) or value < 0:
                for call in (trie.seek, trie.hole):
                    with self.assertRaises(BadNumber):
                        call((), value)
                    with self.assertRaises(BadNumber):
                        call(start=(5,), number=value)

    def test_wrong(self):
        order = (BadOrder, lambda query, store, order: good_order(query, order))
        atom = (BadAtom, lambda query, store, order, at: number(at) and at in range(len(query[1])))
        check_guards(self, Trie, (TRIANGLE, TRIANGLE_STORE, (2, 0, 1), 1), [QUERY, STORE, order, atom])

    def test_equal_to_nothing_else(self):
        trie = Trie(ONE, (((0,),),), (0,), 0)
        for value in every_kind():
            self.assertFalse(trie == value)
        self.assertTrue(trie == trie)


if __name__ == "__main__":
    unittest.main()
