import unittest
from itertools import permutations

from coverjoin.acyclic import knot
from coverjoin.counts import smooth_order
from coverjoin.errors import BadLots, BadOrder, BadPlace, BadQuery, BadStore, BadWide, BadWished, Cyclic, NoAnswer
from coverjoin.errors import NotConnected, NotSmooth
from coverjoin.gaps import Union, Walk
from coverjoin.wished import path_of
from helper import EQUAL, LAST, ONE, PATH, QUERY, STAR, STORE, TRIANGLE, Dice, acyclic_queries, acyclic_samples
from helper import check_guards, every_kind, number, numbers, part, plain_answers, plain_trio, raised, rising, some_store
from helper import subsets, wrong_values

BY_HAND = (((0, 0), (1, 0), (1, 1)), ((0, 5), (0, 7), (1, 6)))
LONG = (8, tuple((k, k + 1) for k in range(7)))
FULL = tuple((m, n) for m in range(20) for n in range(20))


def plain_wished(query, store, wished, order):
    """The wished answers in the sequence of an order."""
    found = {part(row, wished) for row in plain_answers(query, store)}
    return sorted(found, key=lambda row: tuple(row[wished.index(a)] for a in order))


def in_order(answer, wished, order):
    return tuple(answer[wished.index(a)] for a in order)


def plain_steps(found, wished, order):
    """The steps that each answer takes, one behind another."""
    steps, last = [], None
    for answer in [in_order(answer, wished, order) for answer in found]:
        alike = 0
        while last is not None and last[alike] == answer[alike]:
            alike += 1
        steps.append(len(order) - alike)
        last = answer
    return steps


def most_looks(found, wished, order, answer):
    """The most that one call may compare for an answer."""
    rows = [in_order(other, wished, order) for other in found]
    told = in_order(answer, wished, order)
    return sum((len({row[k] for row in rows if row[:k] == told[:k]}) - 1).bit_length() for k in range(len(order)))


def lots(many, limit=3, seed=600):
    """Queries, stores, connected wished attributes and smooth orders of them."""
    dice = Dice(seed)
    for query, store in acyclic_samples(many, 4, 5, limit, 9, seed):
        for wished in subsets(range(query[0])):
            if path_of(query, wished) is None:
                orders = [order for order in permutations(wished) if plain_trio(query, order) is None]
                yield query, store, wished, dice.one_of(orders)


class TestWalk(unittest.TestCase):

    def test_forth_alone(self):
        for query, store, wished, order in lots(120):
            found = plain_wished(query, store, wished, order)
            walk = Walk(query, store, wished, order)
            self.assertEqual((walk.steps(), walk.looks(), walk.count()), (0, 0, len(found)))
            made = 0
            for answer, steps in zip(found, plain_steps(found, wished, order)):
                self.assertEqual(walk.forth(), answer)
                made += steps
                self.assertEqual(walk.steps(), made)
                self.assertLessEqual(steps, len(wished))
            for _ in range(3):
                self.assertIsNone(walk.forth())
                self.assertEqual((walk.steps(), walk.looks()), (made, 0))
            rows = [in_order(answer, wished, order) for answer in found]
            self.assertEqual(made, len({row[:k] for row in rows for k in range(1, len(order) + 1)}))

    def test_at_place_and_has(self):
        for query, store, wished, order in lots(80):
            found = plain_wished(query, store, wished, order)
            walk = Walk(query, store, wished, order)
            for place, answer in enumerate(found):
                for call, asked, told in ((walk.at, place, answer), (walk.place, answer, place), (walk.to, place, None)):
                    before = walk.looks()
                    self.assertEqual(call(asked), told)
                    self.assertLessEqual(walk.looks() - before, most_looks(found, wished, order, answer))
                self.assertIs(walk.has(answer), True)
            before = walk.looks()
            walk.to(len(found))
            self.assertIsNone(walk.forth())
            for place in (len(found), len(found) + 1, -1, LAST, None, True, "0"):
                with self.assertRaises(BadPlace):
                    walk.at(place)
                if place != len(found):
                    with self.assertRaises(BadPlace):
                        walk.to(place)
            self.assertEqual((walk.looks(), walk.steps()), (before, 0))

    def test_any_calls(self):
        dice = Dice(61)
        for query, store, wished, order in lots(60, 4, 620):
            found = plain_wished(query, store, wished, order)
            walk = Walk(query, store, wished, order)
            stand, steps, last = 0, 0, None
            for _ in range(20):
                if dice.below(3):
                    told = walk.forth()
                    self.assertEqual(told, found[stand] if stand < len(found) else None)
                    if told is not None:
                        two = [found[stand]] if last is None else [last, found[stand]]
                        steps += plain_steps(two, wished, order)[-1]
                        last, stand = told, stand + 1
                elif dice.below(2) and found:
                    self.assertEqual(walk.at(stand % len(found)), found[stand % len(found)])
                else:
                    stand, last = dice.below(len(found) + 1), None
                    self.assertIsNone(walk.to(stand))
                self.assertEqual(walk.steps(), steps)

    def test_by_hand(self):
        walk = Walk(PATH, BY_HAND, (0, 1), (1, 0))
        told = [(walk.forth(), walk.steps()) for _ in range(4)]
        self.assertEqual(told, [((0, 0), 2), ((1, 0), 3), ((1, 1), 5), (None, 5)])
        walk.to(1)
        self.assertEqual([(walk.forth(), walk.steps()) for _ in range(3)], [((1, 0), 7), ((1, 1), 9), (None, 9)])

    def test_no_wished_attributes(self):
        for store, many in ((BY_HAND, 1), ((((0, 0),), ((1, 1),)), 0)):
            walk = Walk(PATH, store, (), ())
            self.assertEqual(walk.count(), many)
            self.assertIs(walk.has(()), many == 1)
            told = [walk.forth() for _ in range(3)]
            self.assertEqual(told, ([()] if many else [None]) + [None, None])
            walk.to(0)
            self.assertEqual(walk.forth(), () if many else None)
            self.assertEqual((walk.steps(), walk.looks()), (0, 0))
            if many:
                self.assertEqual((walk.at(0), walk.place(())), ((), 0))

    def test_far_more_answers_than_could_be_gone_through(self):
        order = (3, 4, 2, 5, 1, 6, 0, 7)
        walk = Walk(LONG, (FULL,) * 7, tuple(range(8)), order)
        self.assertEqual(walk.count(), 20 ** 8)
        for place in (0, 1, 19, 20, 20 ** 7 + 5, 12345678901, 20 ** 8 - 2):
            before = walk.looks()
            told = walk.at(place)
            self.assertEqual(sum(told[a] * 20 ** (7 - k) for k, a in enumerate(order)), place)
            self.assertEqual(walk.place(told), place)
            self.assertLessEqual(walk.looks() - before, 2 * 8 * 5)
            steps = walk.steps()
            walk.to(place)
            self.assertEqual((walk.forth(), walk.steps()), (told, steps + 8))
            self.assertEqual(walk.place(walk.forth()), place + 1)
        walk.to(20 ** 8)
        self.assertIsNone(walk.forth())
        for place in (20 ** 8, 20 ** 8 + 1):
            self.assertIs(type(raised(walk.at, place)), BadPlace)
        hundreds = tuple(tuple((n,) for n in range(400)) for _ in range(8))
        eight = Walk((8, tuple((k,) for k in range(8))), hundreds, tuple(range(8)), tuple(range(8)))
        self.assertEqual(eight.count(), 400 ** 8)
        self.assertEqual(eight.place(eight.at(LAST)), LAST)
        self.assertEqual(eight.place((399,) * 8), 400 ** 8 - 1)

    def test_few_steps_whatever_is_in_vain(self):
        # Nearly all rows are in no answer, and the wished attributes have few of those that there are.
        store = (tuple((n, n) for n in range(400)), tuple((n, n % 2) for n in range(200, 600)), tuple((1, n) for n in range(400)))
        walk = Walk((4, ((0, 1), (1, 2), (2, 3))), store, (1, 2), (2, 1))
        self.assertEqual((walk.count(), walk.forth(), walk.steps()), (100, (201, 1), 2))
        self.assertEqual((walk.forth(), walk.steps()), ((203, 1), 3))

    def test_has_any_value(self):
        walk = Walk(PATH, BY_HAND, (0, 1), (1, 0))
        for sample in ((0, 0), (1, 1), (0, 1)):
            for value in wrong_values(sample) + [sample]:
                same = numbers(value, 2, 0) and value in ((0, 0), (1, 0), (1, 1))
                self.assertIs(walk.has(value), same, value)
                if not same:
                    with self.assertRaises(NoAnswer):
                        walk.place(value)
        self.assertEqual(walk.looks(), 0)

    def test_great_numbers(self):
        walk = Walk(PATH, (((0, LAST), (LAST, LAST)), ((LAST, 0), (LAST, LAST))), (0, 1, 2), (2, 1, 0))
        self.assertEqual([walk.forth() for _ in range(5)],
                         [(0, LAST, 0), (LAST, LAST, 0), (0, LAST, LAST), (LAST, LAST, LAST), None])
        self.assertIs(walk.has((LAST, LAST, LAST + 1)), False)

    def test_equal_to_nothing_else(self):
        walk = Walk(PATH, BY_HAND, (0, 1), (1, 0))
        for value in every_kind():
            self.assertFalse(walk == value)


def wrong_lot_values():
    """Triples of what a walk is made of, the error, and what the error bears."""
    empty = ((),) * 3
    yield (TRIANGLE, empty, (0, 1), (0, 1)), Cyclic, knot(TRIANGLE)
    yield (TRIANGLE, empty, (0, 2), None), Cyclic, knot(TRIANGLE)
    yield (PATH, BY_HAND, (0, 2), (0, 2)), NotConnected, (0, 1, 2)
    yield (PATH, BY_HAND, (0, 2), None), NotConnected, (0, 1, 2)
    yield (STAR, empty, (0, 1, 2), (3, 3)), NotConnected, (0, 3, 1)
    yield (PATH, BY_HAND, (0, 1, 2), (2, 0, 1)), NotSmooth, (2, 0, 1)
    yield (PATH, BY_HAND, (0, 1), (0, 1, 2)), BadOrder, None
    yield (PATH, BY_HAND, (0, 1), (0, 0)), BadOrder, None
    yield (PATH, BY_HAND, (0, 1), (0, True)), BadOrder, None
    yield (PATH, BY_HAND, (), None), BadOrder, None
    yield (PATH, BY_HAND, (1, 0), (0, 1)), BadWished, None
    yield (PATH, BY_HAND[:1], (1, 0), (0, 1)), BadStore, None
    yield (None, BY_HAND[:1], (1, 0), (0, 1)), BadQuery, None


def borne(error):
    for name in ("knot", "path", "trio"):
        if hasattr(error, name):
            return getattr(error, name)
    return None


class TestWrong(unittest.TestCase):

    def test_wrong(self):
        wished = (BadWished, lambda query, store, value: rising(value, 0, query[0] - 1))

        def fits(query, store, wished, order):
            return numbers(order, len(wished), 0) and sorted(order) == list(wished)
        for told, order in (((0, 1), (1, 0)), ((), ()), ((0, 1, 2), (1, 2, 0))):
            check_guards(self, Walk, (PATH, BY_HAND, told, order), [QUERY, STORE, wished])
            check_guards(self, Walk, (ONE, (((0,),),), told[:1], told[:1]), [QUERY, STORE, wished, (BadOrder, fits)])

    def test_wrong_lots(self):
        for lot, error, told in wrong_lot_values():
            for call in ((Walk, *lot), (Union, [lot]), (Union, ((PATH, BY_HAND, (1,), (1,)), lot))):
                found = raised(*call)
                self.assertIs(type(found), error, lot)
                self.assertEqual(borne(found), told)

    def test_all_errors_in_their_sequence(self):
        for query in acyclic_queries(30, 4, 4, 640):
            store = some_store(Dice(1), query, 2, 4)
            for wished in subsets(range(query[0])):
                path = path_of(query, wished)
                for order in permutations(wished):
                    found = raised(Walk, query, store, wished, order)
                    if path is not None:
                        self.assertEqual((type(found), borne(found)), (NotConnected, path))
                    elif plain_trio(query, order) is not None:
                        self.assertEqual((type(found), borne(found)), (NotSmooth, plain_trio(query, order)))
                    else:
                        self.assertIsNone(found)


class TestUnion(unittest.TestCase):

    def test_each_once(self):
        dice = Dice(67)
        every = {}
        for lot in lots(100, 2, 650):
            every.setdefault(len(lot[2]), []).append(lot)
        for wide in every:
            for _ in range(60):
                chosen = [dice.one_of(every[wide]) for _ in range(1 + dice.below(4))]
                self.one_union(chosen if dice.below(2) else tuple(chosen), wide)

    def one_union(self, chosen, wide):
        union = Union(chosen)
        walks = [Walk(*lot) for lot in chosen]
        told = set()
        self.assertEqual(union.steps(), 0)
        while True:
            before = union.steps()
            answer = union.forth()
            self.assertEqual(answer, self.plain_forth(walks))
            self.assertLessEqual(union.steps() - before, wide * len(chosen))
            self.assertEqual(union.steps(), sum(walk.steps() for walk in walks))
            if answer is None:
                break
            self.assertNotIn(answer, told)
            told.add(answer)
        self.assertEqual(told, {row for query, store, wished, order in chosen
                                for row in plain_wished(query, store, wished, order)})
        for _ in range(3):
            self.assertIsNone(union.forth())

    def plain_forth(self, walks):
        """What the union of walks tells next, as point 73 tells it."""
        if not walks:
            return None
        answer = walks[0].forth()
        if answer is not None and not any(walk.has(answer) for walk in walks[1:]):
            return answer
        return self.plain_forth(walks[1:])

    def test_equal_lots(self):
        lot = (PATH, BY_HAND, (0, 1), (1, 0))
        union = Union([lot] * 4)
        self.assertEqual([union.forth() for _ in range(5)], [(0, 0), (1, 0), (1, 1), None, None])
        self.assertEqual(union.steps(), 4 * 5)

    def test_no_wished_attributes(self):
        lot, none = (PATH, BY_HAND, (), ()), (PATH, (((0, 0),), ((1, 1),)), (), ())
        union = Union((none, lot, none, lot))
        self.assertEqual([union.forth(), union.forth(), union.steps()], [(), None, 0])
        self.assertIsNone(Union([none]).forth())

    def test_wrong(self):
        lot = (PATH, BY_HAND, (0, 1), (1, 0))
        for value in every_kind() + [[lot] * 5, [], (), [list(lot)], [lot[:3]], [lot + (0,)], lot, {0: lot}, [lot, None],
                                     [lot, [1, 2, 3, 4]], "abcd", [(None,) * 3], [(None,) * 4, (None,) * 3]]:
            self.assertIs(type(raised(Union, value)), BadLots, value)
        for wide in ((), (0,), (0, 1, 2)):
            other = (PATH, BY_HAND, wide, smooth_order(PATH, wide))
            for value in ([lot, other], (other, lot), [lot, lot, lot, other]):
                self.assertIs(type(raised(Union, value)), BadWide)
        self.assertIs(type(raised(Union, [lot, (PATH, BY_HAND, (0,), (1,))])), BadOrder)
        self.assertIs(type(raised(Union, [lot, (PATH, BY_HAND, (0,), (0,)), (None,) * 4])), BadQuery)

    def test_the_list_of_lots_may_be_changed(self):
        given = [(PATH, BY_HAND, (0, 1), (1, 0))]
        union = Union(given)
        given.clear()
        self.assertEqual(union.forth(), (0, 0))
        self.assertTrue(number(union.steps()))

    def test_a_table_without_rows(self):
        union = Union([(EQUAL, ((), ((0, 1),), ((1,),)), (0, 1), (1, 0))])
        self.assertIsNone(union.forth())


if __name__ == "__main__":
    unittest.main()
