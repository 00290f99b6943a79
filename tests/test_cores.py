import unittest
from itertools import permutations

from coverjoin.answers import answers
from coverjoin.cores import core, dear_store, engine_order, is_core, steady_plan
from coverjoin.engine import steps_by
from coverjoin.errors import BadCore, BadSize
from coverjoin.pairs import greatest_middle, node_table
from coverjoin.tables import sizes
from coverjoin.within import plan_within
from helper import LINES, NAMED, ONE, QUERY, RING, TRIANGLE, WIDE, Dice, all_queries, an_order, check_guards, check_judge
from helper import good_plan, good_store, live_store, number, numbers, part, plain_nodes, plans_of, small_queries
from helper import some_queries, some_store, subsets

RING_OF_8 = (8, tuple((k, k + 1) for k in range(7)) + ((0, 7),))
RING_AND_MORE = (6, ((0, 1, 5), (1, 2), (2, 3, 5), (3, 0), (4, 5)))
RING_AND_MORE = (6, tuple(tuple(sorted(atom)) for atom in RING_AND_MORE[1]))


def together(query, *attributes):
    return any(set(attributes) <= set(atom) for atom in query[1])


def good_core(query, value):
    """Whether any value is a core, by the document's reading."""
    if type(value) is not tuple or len(value) != 2 or type(value[0]) is not str or type(value[1]) is not tuple:
        return False
    word, told = value
    if not numbers(told, len(told), 0, query[0] - 1) or len(set(told)) < len(told):
        return False
    pairs = {(one, other): together(query, told[one], told[other]) for other in range(len(told)) for one in range(other)}
    if word == "lot":
        return len(told) >= 3 and list(told) == sorted(told) and all(pairs.values()) and not together(query, *told)
    beside = [(k, k + 1) for k in range(len(told) - 1)] + [(0, len(told) - 1)]
    return word == "ring" and len(told) >= 4 and all(pairs[pair] == (pair in beside) for pair in pairs)


def all_cores(query):
    for attributes in subsets(range(query[0])):
        for value in [("lot", attributes)] + [("ring", ring) for ring in permutations(attributes) if len(ring) < 7]:
            if good_core(query, value):
                yield value


def has_join_tree(query):
    """Whether the query reduces to nothing by taking out ears."""
    atoms = [set(atom) for atom in query[1]]
    changed = True
    while changed:
        changed = False
        for k, atom in enumerate(atoms):
            lone = {a for a in atom if not any(a in other for j, other in enumerate(atoms) if j != k)}
            if any(atom - lone <= other for j, other in enumerate(atoms) if j != k):
                atoms.pop(k)
                changed = True
                break
    return len(atoms) <= 1


def queries():
    yield from small_queries()
    yield from list(all_queries(4, 3))[::7]
    yield from some_queries(150, 6, 6, 190)
    yield from NAMED
    yield from (RING_OF_8, RING_AND_MORE)


def some_with_core(many=40):
    found = [query for query in queries() if core(query) is not None]
    return found[::max(1, len(found) // many)] + [TRIANGLE, RING, RING_AND_MORE]


class TestCore(unittest.TestCase):

    def test_exactly_one_of_the_two(self):
        for query in queries():
            found, plan = core(query), steady_plan(query)
            self.assertEqual((found is None, plan is not None), (has_join_tree(query),) * 2, query)
            if found is not None:
                self.assertTrue(good_core(query, found), query)
                self.assertIs(is_core(query, found), True)
            else:
                self.assertTrue(good_plan(query, plan), query)

    def test_by_hand(self):
        self.assertEqual(core(TRIANGLE), ("lot", (0, 1, 2)))
        self.assertEqual(core(WIDE), ("lot", tuple(range(8))))
        self.assertEqual(core(RING_OF_8)[0], "ring")
        self.assertEqual(steady_plan(ONE), 0)

    def test_is_core_of_all_candidates(self):
        for query in list(all_queries(4, 3))[::60] + [RING, RING_AND_MORE, TRIANGLE]:
            for attributes in subsets(range(query[0])):
                for told in permutations(attributes):
                    for word in ("lot", "ring", "tree", "", "lots"):
                        self.assertIs(is_core(query, (word, told)), good_core(query, (word, told)))

    def test_is_core_of_any_value(self):
        for query, sample in ((TRIANGLE, ("lot", (0, 1, 2))), (RING, ("ring", (1, 2, 3, 0))),
                              (RING_OF_8, ("ring", tuple(range(8)))), (WIDE, ("lot", tuple(range(8))))):
            self.assertTrue(good_core(query, sample))
            check_judge(self, lambda value: is_core(query, value), lambda value: good_core(query, value), [sample])

    def test_wrong(self):
        for function in (is_core, core, steady_plan):
            check_guards(self, function, (TRIANGLE, ("lot", (0, 1, 2)))[:2 if function == is_core else 1], [QUERY])


class TestSteadyPlan(unittest.TestCase):

    def test_nodes_have_just_parts_of_answers(self):
        dice = Dice(6)
        for query in queries():
            plan = steady_plan(query)
            if plan is None or query[0] > 5 or len(query[1]) > 5:
                continue
            store = live_store(query, some_store(dice, query, 3, 8))
            found = answers(query, store)
            for atoms in plain_nodes(plan):
                kept, rows = node_table(query, store, atoms)
                self.assertEqual(rows, tuple(sorted({part(row, kept) for row in found})))
            self.assertIsNotNone(plan_within(query, store, len(found)))


class TestDear(unittest.TestCase):

    def dear_rows(self, query, told, size):
        """The answers of a dear store, from all tuples, by the document's reading."""
        word, attributes = told
        groups = [[a] for a in attributes]
        if word == "ring":
            groups = [attributes[:-2], [attributes[-2]], [attributes[-1]]]
        rows = {(0,) * query[0]}
        for group in groups:
            for n in range(1, size + 1):
                rows.add(tuple(n if a in group else 0 for a in range(query[0])))
        return rows

    def test_reading(self):
        for query in some_with_core():
            for told in list(all_cores(query))[:4]:
                for size in (1, 2, 50):
                    store = dear_store(query, told, size)
                    rows = self.dear_rows(query, told, size)
                    self.assertTrue(good_store(query, store))
                    self.assertEqual(store, tuple(tuple(sorted({part(row, atom) for row in rows})) for atom in query[1]))
                    self.assertEqual(answers(query, store), tuple(sorted(rows)))
                    self.assertEqual(len(rows), (len(told[1]) if told[0] == "lot" else 3) * size + 1)
                    self.assertLessEqual(max(sizes(query, store)), min(400, len(rows)))

    def test_every_plan_is_dear(self):
        for query in some_with_core(25):
            if len(query[1]) <= 5:
                for told in list(all_cores(query))[:2]:
                    for size in (1, 3):
                        store = dear_store(query, told, size)
                        for plan in plans_of(list(range(len(query[1])))):
                            for thrifty in (False, True):
                                self.assertGreaterEqual(greatest_middle(query, store, plan, thrifty), (size + 1) ** 2)

    def test_no_plan_within(self):
        for query, told in ((WIDE, core(WIDE)), (LINES, core(LINES)), (RING_OF_8, ("ring", (3, 4, 5, 6, 7, 0, 1, 2)))):
            for size in (1, 4):
                for thrifty in (False, True):
                    self.assertIsNone(plan_within(query, dear_store(query, told, size), (size + 1) ** 2 - 1, thrifty))

    def test_steps_grow_as_size_does(self):
        for query in some_with_core():
            for told in list(all_cores(query))[:3]:
                for size in (1, 3, 50):
                    self.steps(query, told, size)

    def steps(self, query, told, size):
        word, attributes = told
        store, order = dear_store(query, told, size), engine_order(query, told)
        if word == "ring":
            r = len(attributes)
            self.assertEqual(order, attributes + tuple(a for a in range(query[0]) if a not in attributes))
            steps = [size + 1] * (r - 2) + [2 * size + 1] + [3 * size + 1] * (query[0] - r + 1)
            self.assertEqual(steps_by(query, store, order), tuple(steps))
            return
        self.assertEqual(order, tuple(range(query[0])))
        for sequence in self.some_orders(query[0]) + [order]:
            steps = []
            for level, a in enumerate(sequence):
                w = len(set(sequence[:level]) & set(attributes))
                steps.append((w + 1 if a in attributes else w) * size + 1)
            self.assertEqual(steps_by(query, store, sequence), tuple(steps))

    def some_orders(self, many):
        if many <= 3:
            return list(permutations(range(many)))
        dice = Dice(many)
        return [an_order(dice, (many, ())) for _ in range(8)]

    def test_by_hand(self):
        store = dear_store(TRIANGLE, ("lot", (0, 1, 2)), 1)
        self.assertEqual(store, (((0, 0), (0, 1), (1, 0)),) * 3)
        for order in permutations(range(3)):
            self.assertEqual(steps_by(TRIANGLE, store, order), (2, 3, 4))

    def test_wrong(self):
        told = (BadCore, lambda query, value: good_core(query, value))
        size = (BadSize, lambda query, value, size: number(size) and 1 <= size <= 50)
        for query, value in ((TRIANGLE, ("lot", (0, 1, 2))), (RING, ("ring", (0, 1, 2, 3)))):
            for good in (1, 50):
                check_guards(self, dear_store, (query, value, good), [QUERY, told, size])
            check_guards(self, engine_order, (query, value), [QUERY, told])


if __name__ == "__main__":
    unittest.main()
