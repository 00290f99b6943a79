import unittest

from coverjoin.answers import answers
from coverjoin.checks import is_store
from coverjoin.embedding import embedded
from coverjoin.errors import BadLeft, BadMatrix, BadPair, BadRight
from coverjoin.hierarchical import hierarchy
from helper import NOT_HIERARCHICAL, QUERY, RING, TRIANGLE, WIDE, Dice, all_pairs_of, check_guards, is_hierarchical
from helper import number, numbers, raised, some_query, wrong_values

PAIR = ("pair", 0, 1, 0, 1, 2)


def bits(dice, many):
    return tuple(dice.below(2) for _ in range(many))


def some_matrices(many, seed, most=4):
    dice = Dice(seed)
    for _ in range(many):
        rows, columns = 1 + dice.below(most), 1 + dice.below(most)
        yield tuple(bits(dice, columns) for _ in range(rows)), bits(dice, rows), bits(dice, columns)


def product_of(matrix, left, right):
    return sum(left[r] * matrix[r][c] * right[c] for r in range(len(matrix)) for c in range(len(matrix[0])))


def plain_embedded(query, pair, matrix, left, right):
    """The store as point 93 tells it, table by table."""
    _, one, other, first, both, second = pair
    tables = []
    for at, atom in enumerate(query[1]):
        rows = set()
        for r in range(len(matrix)):
            for c in range(len(matrix[0])):
                if (at == first and not left[r]) or (at == second and not right[c]) or (at == both and not matrix[r][c]):
                    continue
                rows.add(tuple(r if a == one else c if a == other else 0 for a in atom))
        tables.append(tuple(sorted(rows)))
    return tuple(tables)


def good_pair(query, value):
    if type(value) is not tuple or len(value) != 6 or type(value[0]) is not str or value[0] != "pair":
        return False
    return all(number(item) for item in value[1:]) and value[1:] in list(all_pairs_of(query))


def good_matrix(query, pair, value):
    if type(value) is not tuple or not 1 <= len(value) <= 20 or type(value[0]) is not tuple or not 1 <= len(value[0]) <= 20:
        return False
    return all(numbers(row, len(value[0]), 0, 1) for row in value)


GUARDS = [QUERY, (BadPair, good_pair), (BadMatrix, good_matrix),
          (BadLeft, lambda query, pair, matrix, left: numbers(left, len(matrix), 0, 1)),
          (BadRight, lambda query, pair, matrix, left, right: numbers(right, len(matrix[0]), 0, 1))]


class TestEmbedded(unittest.TestCase):

    def test_by_hand(self):
        self.assertEqual(hierarchy(NOT_HIERARCHICAL), PAIR)
        self.assertEqual(embedded(NOT_HIERARCHICAL, PAIR, ((1, 0), (1, 1)), (1, 1), (0, 1)),
                         (((0,), (1,)), ((0, 0), (1, 0), (1, 1)), ((1,),)))
        self.assertEqual(embedded(TRIANGLE, ("pair", 0, 1, 1, 0, 2), ((0, 1),), (1,), (1, 0)),
                         (((0, 1),), ((0, 0),), ((0, 0),)))
        self.assertEqual(embedded((3, ((0,), (0, 1), (1,), (2,), (0, 1, 2))), ("pair", 0, 1, 0, 1, 2), ((1, 0),), (0,), (1, 1)),
                         ((), ((0, 0),), ((0,), (1,)), ((0,),), ((0, 0, 0), (0, 1, 0))))

    def test_answers_are_the_product(self):
        dice = Dice(931)
        done = 0
        while done < 80:
            query = some_query(dice, 5, 5)
            if is_hierarchical(query):
                continue
            done += 1
            pairs = list(all_pairs_of(query))
            self.assertEqual(hierarchy(query), ("pair",) + pairs[0])
            for matrix, left, right in some_matrices(3, done):
                pair = ("pair",) + dice.one_of(pairs)
                store = embedded(query, pair, matrix, left, right)
                self.assertEqual(store, plain_embedded(query, pair, matrix, left, right))
                self.assertIs(is_store(query, store), True)
                self.assertEqual(len(answers(query, store)), product_of(matrix, left, right))

    def test_one_row_for_each_change(self):
        for matrix, left, right in some_matrices(30, 932):
            store = embedded(NOT_HIERARCHICAL, PAIR, matrix, left, right)
            for k in range(len(left)):
                changed = left[:k] + (1 - left[k],) + left[k + 1:]
                other = embedded(NOT_HIERARCHICAL, PAIR, matrix, changed, right)
                self.assertEqual(other[1:], store[1:])
                self.assertEqual(set(other[0]) ^ set(store[0]), {(k,)})
            for k in range(len(right)):
                changed = right[:k] + (1 - right[k],) + right[k + 1:]
                other = embedded(NOT_HIERARCHICAL, PAIR, matrix, left, changed)
                self.assertEqual(other[:2], store[:2])
                self.assertEqual(set(other[2]) ^ set(store[2]), {(k,)})

    def test_twenty_rows_and_columns(self):
        dice = Dice(933)
        matrix, left, right = tuple(bits(dice, 20) for _ in range(20)), bits(dice, 20), bits(dice, 20)
        for query in (NOT_HIERARCHICAL, TRIANGLE, RING, WIDE):
            store = embedded(query, hierarchy(query), matrix, left, right)
            self.assertEqual(store, plain_embedded(query, hierarchy(query), matrix, left, right))
            self.assertEqual(len(answers(query, store)), product_of(matrix, left, right))
        full = ((1,) * 20,) * 20
        self.assertEqual(len(embedded(NOT_HIERARCHICAL, PAIR, full, (1,) * 20, (1,) * 20)[1]), 400)
        self.assertIsNone(raised(embedded, NOT_HIERARCHICAL, PAIR, ((1,) * 20,), (1,), (0,) * 20))

    def test_zeros(self):
        self.assertEqual(embedded(NOT_HIERARCHICAL, PAIR, ((0,),), (0,), (0,)), ((), (), ()))


class TestWrong(unittest.TestCase):

    def test_wrong(self):
        check_guards(self, embedded, (NOT_HIERARCHICAL, PAIR, ((1, 0), (1, 1), (0, 0)), (1, 1, 0), (0, 1)), GUARDS)
        check_guards(self, embedded, (TRIANGLE, ("pair", 0, 1, 1, 0, 2), ((1,),), (0,), (1,)), GUARDS)

    def test_matrices_that_are_too_great(self):
        for matrix in (((1,) * 21,), ((1,),) * 21, ((),), (), ((1, 0), (1,)), ((2,),), ((1, 0), [1, 0]), ((True,),)):
            self.assertIs(type(raised(embedded, NOT_HIERARCHICAL, PAIR, matrix, None, None)), BadMatrix)

    def test_no_pair(self):
        hierarchical = (2, ((0,), (0, 1)))
        for pair in (("forest", (None, 0)), ("pair", 0, 1, 0, 1, 1), PAIR, None):
            self.assertIs(type(raised(embedded, hierarchical, pair, None, None, None)), BadPair)
        # Any pair is taken, not just the least one.
        query = (2, ((0,), (0, 1), (1,), (0,), (1,)))
        for pair in all_pairs_of(query):
            self.assertIsNone(raised(embedded, query, ("pair",) + pair, ((1,),), (1,), (1,)))
        for value in wrong_values(PAIR[1:]):
            self.assertIs(type(raised(embedded, NOT_HIERARCHICAL, value, None, None, None)), BadPair)


if __name__ == "__main__":
    unittest.main()
