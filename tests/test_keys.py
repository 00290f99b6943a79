import unittest
from itertools import product

from coverjoin.answers import answers, is_answer
from coverjoin.checks import is_store
from coverjoin.errors import BadAttribute, BadAttributes, BadKeys
from coverjoin.keys import are_keys, broken_key, is_telling, keeps_keys, telling, told_by, two_answers
from helper import EQUAL, ONE, PATH, QUERY, STORE, TRIANGLE, TRIANGLE_STORE, Dice, all_stores, check_guards, check_judge
from helper import good_keys, number, part, rising, some_queries, some_store, subsets, wrong_values

KEYS = (BadKeys, lambda query, keys: good_keys(query, keys))
ATTRIBUTES = (BadAttributes, lambda *all_of: rising(all_of[-1], 0, all_of[0][0] - 1))
ATTRIBUTE = (BadAttribute, lambda *all_of: number(all_of[-1]) and all_of[-1] in range(all_of[0][0]))
TOLD = (3, ((0, 1, 2), (1, 2)))
TOLD_KEYS = ((0, (0, 1)), (1, (2,)))


def all_keys(query):
    """All keys that there are for the query."""
    return [(place, tellers) for place, atom in enumerate(query[1]) for tellers in subsets(atom) if tellers]


def some_keys(dice, query, most=4):
    there = all_keys(query)
    return tuple(sorted({dice.one_of(there) for _ in range(dice.below(most + 1))}))


def samples(many=150, seed=3, most=5):
    dice = Dice(seed)
    for query in some_queries(many, most, 4, seed):
        yield query, some_keys(dice, query), dice


def plain_told(query, keys, attributes):
    told = set(attributes)
    for _ in range(9):
        for place, tellers in keys:
            if set(tellers) <= told:
                told |= set(query[1][place])
    return tuple(sorted(told))


def plain_keeps(query, keys, store):
    return all(len({part(row, [query[1][place].index(a) for a in tellers]) for row in store[place]}) == len(store[place])
               for place, tellers in keys)


class TestAreKeys(unittest.TestCase):

    def test_all_keys(self):
        for query, keys, _ in samples():
            self.assertIs(are_keys(query, keys), True)
            self.assertIs(are_keys(query, keys[::-1]), len(keys) < 2)
        self.assertIs(are_keys(ONE, ()), True)

    def test_twenty_and_more(self):
        query = (8, (tuple(range(8)),) * 8)
        there = tuple(all_keys(query))
        self.assertIs(are_keys(query, there[:20]), True)
        self.assertIs(are_keys(query, there[:21]), False)
        self.assertIs(are_keys(query, tuple((k, (0,)) for k in range(8))), True)

    def test_any_value(self):
        for query, keys in ((TOLD, TOLD_KEYS), (TRIANGLE, ((0, (0,)), (0, (0, 1)), (2, (2,)))), (ONE, ())):
            check_judge(self, lambda value: are_keys(query, value), lambda value: good_keys(query, value), [keys])
        for value in (((0, ()),), ((1, (0,)),), ((0, (1, 0)),), ((2, (0,)),), ((True, (1,)),), ((0, (True,)),),
                      [(0, (0,))], ((0, [0]),), ([0, (0,)],), ((0, (0,)),) * 2, ((0, (0, 0)),)):
            self.assertIs(are_keys(TOLD, value), False, value)

    def test_wrong(self):
        check_guards(self, are_keys, (TOLD, TOLD_KEYS), [QUERY])


class TestKeepsKeys(unittest.TestCase):

    def test_broken(self):
        store = (((0, 0, 1), (0, 1, 0), (1, 0, 0), (1, 0, 1), (1, 1, 1)), ((0, 0), (1, 0)))
        self.assertEqual(broken_key(TOLD, TOLD_KEYS, store), (TOLD_KEYS[0], (1, 0, 0), (1, 0, 1)))
        self.assertEqual(broken_key(TOLD, TOLD_KEYS[1:], store), (TOLD_KEYS[1], (0, 0), (1, 0)))
        self.assertEqual(broken_key(TOLD, ((0, (2,)), (1, (2,))), store), ((0, (2,)), (0, 0, 1), (1, 0, 1)))
        self.assertIsNone(broken_key(TOLD, (), store))

    def test_all_pairs(self):
        for query, keys, dice in samples(250):
            store = some_store(dice, query, 3, 7)
            plain = None
            for place, tellers in keys:
                places = [query[1][place].index(a) for a in tellers]
                pairs = [(row, other) for row in store[place] for other in store[place]
                         if row < other and part(row, places) == part(other, places)]
                if pairs and plain is None:
                    plain = ((place, tellers),) + min(pairs)
            self.assertEqual(broken_key(query, keys, store), plain)
            self.assertIs(keeps_keys(query, keys, store), plain is None)
            self.assertEqual(plain is None, plain_keeps(query, keys, store))

    def test_wrong(self):
        good = (TOLD, TOLD_KEYS, (((0, 0, 0),), ()))
        store = (STORE[0], lambda query, keys, store: STORE[1](query, store))
        for function in (broken_key, keeps_keys):
            check_guards(self, function, good, [QUERY, KEYS, store])


class TestToldBy(unittest.TestCase):

    def test_told(self):
        self.assertEqual(told_by(TOLD, TOLD_KEYS, ()), ())
        self.assertEqual(told_by(TOLD, TOLD_KEYS, (2,)), (1, 2))
        self.assertEqual(told_by(TOLD, TOLD_KEYS, (0, 2)), (0, 1, 2))
        self.assertEqual(told_by(TOLD, TOLD_KEYS, (0,)), (0,))

    def test_all_attributes(self):
        for query, keys, _ in samples():
            for attributes in subsets(range(query[0])):
                self.assertEqual(told_by(query, keys, attributes), plain_told(query, keys, attributes))

    def test_a_chain_against_the_sequence_of_keys(self):
        query = (8, tuple((k, k + 1) for k in range(7)))
        keys = tuple((k, (k + 1,)) for k in range(7))
        self.assertEqual(told_by(query, keys, (7,)), tuple(range(8)))
        self.assertEqual(told_by(query, keys, (3,)), (0, 1, 2, 3))
        self.assertIs(is_telling(query, keys, (7,), 0, telling(query, keys, (7,), 0)), True)

    def test_wrong(self):
        check_guards(self, told_by, (TOLD, TOLD_KEYS, (0, 2)), [QUERY, KEYS, ATTRIBUTES])


def plain_telling(query, keys, attributes, attribute, value):
    """Whether any value tells: each item is just like a key, and its tellers are there."""
    told = set(attributes)
    if type(value) is not tuple:
        return False
    for key in value:
        if not any(repr(key) == repr(other) for other in keys):
            return False
        if not set(key[1]) <= told:
            return False
        told |= set(query[1][key[0]])
    return attribute in told


class TestTelling(unittest.TestCase):

    def test_exactly_what_is_told(self):
        for query, keys, _ in samples():
            for attributes in subsets(range(query[0])):
                for attribute in range(query[0]):
                    value = telling(query, keys, attributes, attribute)
                    if attribute in plain_told(query, keys, attributes):
                        self.assertTrue(plain_telling(query, keys, attributes, attribute, value))
                        self.assertIs(is_telling(query, keys, attributes, attribute, value), True)
                    else:
                        self.assertIsNone(value)

    def test_any_value(self):
        good = (TOLD_KEYS[1], TOLD_KEYS[0])
        for value in [good, good + good, good[::-1], good[1:], (), good[:1] * 3] + wrong_values(good):
            for attribute in range(3):
                for attributes in ((0, 2), (2,), (0, 1)):
                    self.assertIs(is_telling(TOLD, TOLD_KEYS, attributes, attribute, value),
                                  plain_telling(TOLD, TOLD_KEYS, attributes, attribute, value), value)

    def test_true_is_no_number_of_an_atom(self):
        keys = ((1, (1,)),)
        self.assertIs(is_telling(PATH, keys, (1,), 2, ((1, (1,)),)), True)
        self.assertIs(is_telling(PATH, keys, (1,), 2, ((True, (1,)),)), False)
        self.assertIs(is_telling(PATH, keys, (1,), 2, ((1, (True,)),)), False)

    def test_wrong(self):
        good = (TOLD, TOLD_KEYS, (0, 2), 1)
        check_guards(self, telling, good, [QUERY, KEYS, ATTRIBUTES, ATTRIBUTE])
        for value in ((), None):
            check_guards(self, is_telling, good + (value,), [QUERY, KEYS, ATTRIBUTES, ATTRIBUTE])


class TestTwoAnswers(unittest.TestCase):

    def test_two_answers(self):
        for query, keys, _ in samples():
            for attributes in subsets(range(query[0])):
                store = two_answers(query, keys, attributes)
                told = plain_told(query, keys, attributes)
                row = tuple(0 if a in told else 1 for a in range(query[0]))
                self.assertTrue(is_store(query, store))
                self.assertIs(keeps_keys(query, keys, store), True)
                self.assertIs(is_answer(query, store, (0,) * query[0]), True)
                self.assertIs(is_answer(query, store, row), True)
                for atom, table in zip(query[1], store):
                    self.assertEqual(set(table), {(0,) * len(atom), part(row, atom)})

    def test_one_row_where_all_is_told(self):
        self.assertEqual(two_answers(TOLD, TOLD_KEYS, (2,)), (((0, 0, 0), (1, 0, 0)), ((0, 0),)))

    def test_wrong(self):
        check_guards(self, two_answers, (TOLD, TOLD_KEYS, (0, 2)), [QUERY, KEYS, ATTRIBUTES])


class TestWhatIsTold(unittest.TestCase):

    def judged(self, query, keys, store):
        if plain_keeps(query, keys, store):
            found = answers(query, store)
            for attributes in subsets(range(query[0])):
                told = told_by(query, keys, attributes)
                known = {}
                for row in found:
                    self.assertEqual(known.setdefault(part(row, attributes), part(row, told)), part(row, told))

    def test_all_small_stores(self):
        query = (2, ((0, 1), (1,)))
        for keys in subsets(all_keys(query)):
            for store in all_stores(query, 2):
                self.judged(query, keys, store)

    def test_made_stores(self):
        for query, keys, dice in samples(400, 7, 4):
            self.judged(query, keys, some_store(dice, query, 3, 4))
        self.judged(EQUAL, ((0, (0,)), (1, (1,))), (((0, 0), (1, 0)), ((0, 0), (1, 1)), ((0,), (1,))))
        self.judged(TRIANGLE, (), TRIANGLE_STORE)
        for bits in product(range(2), repeat=6):
            table = tuple(row for row, bit in zip(product(range(2), range(3)), bits) if bit)
            self.judged(PATH, ((0, (0,)), (1, (1,))), (table, tuple(sorted(part(row, (1, 0)) for row in table))))


if __name__ == "__main__":
    unittest.main()
