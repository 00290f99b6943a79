import unittest
from itertools import combinations

from coverjoin.cores import dear_store
from coverjoin.errors import BadMost
from coverjoin.pairs import greatest_middle
from coverjoin.within import is_against, lots_against, plan_within
from helper import LAST, ONE, PATH, QUERY, RING, STORE, THRIFTY, TRIANGLE, TRIANGLE_STORE, Dice, all_queries, check_guards
from helper import every_kind, good_plan, number, plain_table, plans_of, raised, rising, samples, some_store, wrong_values

EIGHT = (8, tuple((k,) for k in range(8)))
HUNDREDS = tuple(tuple((n,) for n in range(300)) for _ in range(8))


def plain_against(query, store, most, value, thrifty):
    """Whether any value is lots against all plans, by the document's reading."""
    many = len(query[1])
    if type(value) not in (list, tuple) or not all(rising(lot, 0, many - 1) and lot for lot in value):
        return False
    if any((at,) not in value for at in range(many)) or any(len(lot) == many for lot in value):
        return False
    for one, other in combinations(value, 2):
        if not set(one) & set(other):
            lot = tuple(sorted(one + other))
            if len(lot) == many:
                return False
            if lot not in value and len(plain_table(query, store, lot, thrifty)[1]) <= most:
                return False
    return True


def stores():
    yield from samples(80, 4, 4, 3, 7, 170)
    dice = Dice(23)
    for query in list(all_queries(3, 3))[::5]:
        yield query, some_store(dice, query, 3, 6)


class TestWithin(unittest.TestCase):

    def test_by_hand(self):
        store = (((0, 0), (0, 1), (1, 0)),) * 3
        self.assertIsNone(plan_within(TRIANGLE, store, 4))
        self.assertEqual(sorted(lots_against(TRIANGLE, store, 4)), [(0,), (1,), (2,)])
        self.assertIsNone(lots_against(TRIANGLE, store, 5))
        self.assertEqual(greatest_middle(TRIANGLE, store, plan_within(TRIANGLE, store, 5)), 5)
        self.assertIsNone(lots_against(TRIANGLE, store, 4, True))
        self.assertIsNone(plan_within(TRIANGLE, store, 3, thrifty=True))

    def test_one_and_two_atoms(self):
        for query, store in ((ONE, (((0,),),)), (PATH, (((0, 0), (1, 0)), ((0, 0), (0, 1))))):
            for thrifty in (False, True):
                self.assertTrue(good_plan(query, plan_within(query, store, 0, thrifty)))
                self.assertIsNone(lots_against(query, store, 0, thrifty))
                for value in ([], [(0,)], [(0,), (1,)], ()):
                    self.assertIs(is_against(query, store, 0, value, thrifty), False)

    def test_exactly_one_of_the_two(self):
        for query, store in stores():
            for thrifty in (False, True):
                least = min(greatest_middle(query, store, plan, thrifty) for plan in plans_of(list(range(len(query[1])))))
                for most in sorted({0, 1, 2, 5, least, max(0, least - 1), least + 1, 20000}):
                    self.one_of_two(query, store, most, thrifty, least <= most)

    def one_of_two(self, query, store, most, thrifty, is_within):
        plan, lots = plan_within(query, store, most, thrifty), lots_against(query, store, most, thrifty)
        self.assertEqual((plan is not None, lots is None), (is_within, is_within))
        if is_within:
            self.assertTrue(good_plan(query, plan))
            self.assertLessEqual(greatest_middle(query, store, plan, thrifty), most)
        else:
            self.assertIs(type(lots), list)
            self.assertTrue(plain_against(query, store, most, lots, thrifty))
            for value in (lots, tuple(lots), lots + lots, lots[::-1]):
                self.assertIs(is_against(query, store, most, value, thrifty), True)

    def test_any_value(self):
        store = (((0, 0), (0, 1), (1, 0)),) * 3
        four = dear_store(RING, ("ring", (0, 1, 2, 3)), 1)
        for query, tables, most in ((TRIANGLE, store, 4), (TRIANGLE, store, 5), (RING, four, 3), (RING, four, 5)):
            every = [tuple(at for at in range(len(query[1])) if bits >> at & 1) for bits in range(1, 2 ** len(query[1]))]
            lots = [lot for lot in every if len(lot) == 1]
            values = wrong_values(lots) + [lots + [lot] for lot in every] + [lots + list(two) for two in combinations(every, 2)]
            for value in values + [tuple(lots), [*every[:-1]], every, lots + [()], [()] + lots, lots + [[0]]]:
                for thrifty in (False, True):
                    with self.subTest(value=value):
                        self.assertIs(is_against(query, tables, most, value, thrifty),
                                      plain_against(query, tables, most, value, thrifty))

    def test_tables_that_need_not_be_made(self):
        self.assertIsNone(plan_within(EIGHT, HUNDREDS, 20000))
        self.assertEqual(sorted(lots_against(EIGHT, HUNDREDS, 20000)), [(k,) for k in range(8)])
        self.assertIs(is_against(EIGHT, HUNDREDS, 20000, [(k,) for k in range(8)]), True)
        self.assertIs(is_against(EIGHT, HUNDREDS, 20000, [(k,) for k in range(8)] + [(0, 1, 2, 3, 4, 5)]), True)
        self.assertIs(is_against(EIGHT, HUNDREDS, 20000, [(k,) for k in range(8)] + [(0, 1, 2, 3, 4, 5, 6)]), False)
        self.assertTrue(good_plan(EIGHT, plan_within(EIGHT, HUNDREDS, 1, True)))
        star = (5, ((0, 1), (0, 2), (0, 3), (0, 4), (1, 2, 3, 4)))
        store = (tuple((0, n) for n in range(400)),) * 4 + (((1, 2, 3, 4),),)
        for thrifty in (False, True):
            self.assertTrue(good_plan(star, plan_within(star, store, 1, thrifty)))

    def test_wrong(self):
        most = (BadMost, lambda query, store, most: number(most) and 0 <= most <= 20000)
        good = (TRIANGLE, TRIANGLE_STORE, 4, True)
        for function in (plan_within, lots_against):
            check_guards(self, function, good, [QUERY, STORE, most, THRIFTY])
        for function in (plan_within, lots_against, is_against):
            for wrong in (20001, -1, LAST):
                behind = (None, None) if function is is_against else (None,)
                self.assertIs(type(raised(function, TRIANGLE, TRIANGLE_STORE, wrong, *behind)), BadMost)
        value = (None, None)
        check_guards(self, is_against, (TRIANGLE, TRIANGLE_STORE, 4, [], False), [QUERY, STORE, most, value, THRIFTY])
        for wrong in every_kind():
            if wrong is not True and wrong is not False:
                with self.assertRaises(THRIFTY[0]):
                    is_against(TRIANGLE, TRIANGLE_STORE, 4, wrong, wrong)


if __name__ == "__main__":
    unittest.main()
