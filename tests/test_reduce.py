import unittest
from itertools import product

from coverjoin.acyclic import knot, tree_of
from coverjoin.errors import BadProgram, BadTree, Cyclic
from coverjoin.reduce import agree, escape, is_full, is_program, joined, live, program_of, run
from helper import COVERED, EQUAL, LINES, NAMED, ONE, PATH, QUERY, RING, STAR, STORE, TRIANGLE, TRIANGLE_STORE, WIDE, Dice
from helper import acyclic_queries, acyclic_samples, all_stores, check_guards, check_judge, good_program, good_store
from helper import good_tree, has_ears, live_store, part, plain_agree, plain_answers, plain_run, plain_table, samples
from helper import small_queries, some_queries, some_store, trees_of

LINE = (4, ((0, 1), (1, 2), (2, 3)))
THREE = (1, ((0,), (0,), (0,)))


def some_program(dice, many, most):
    semijoins = [(one, other) for one in range(many) for other in range(many) if one != other]
    return tuple(dice.one_of(semijoins) for _ in range(dice.below(most + 1) if semijoins else 0))


def depth(tree, at):
    return 0 if tree[at] == at else 1 + depth(tree, tree[at])


def plain_live(query, store):
    """The store of the live rows, by joining all tables row by row."""
    _, rows = plain_table(query, store, tuple(range(len(query[1]))))
    return tuple(tuple(sorted({part(row, atom) for row in rows})) for atom in query[1])


class TestPrograms(unittest.TestCase):

    def test_is_program(self):
        for query, sample in ((PATH, ((0, 1), (1, 0))), (LINE, ((0, 1),) * 14), (STAR, ()), (STAR, ((2, 0),))):
            check_judge(self, lambda value: is_program(query, value), lambda value: good_program(query, value), [sample])
        self.assertIs(is_program(PATH, ((0, 1),) * 15), False)
        self.assertIs(is_program(ONE, ((0, 0),)), False)

    def test_run(self):
        dice = Dice(14)
        for query, store in samples(200, 4, 5, 3, 8, 300):
            program = some_program(dice, len(query[1]), 14)
            self.assertEqual(run(query, store, program), plain_run(query, store, program))
        self.assertEqual(run(PATH, (((0, 0), (1, 7)), ((0, 3), (5, 5))), ((0, 1), (1, 0))),
                         ((((0, 0),), ((0, 3),)), (4, 3)))

    def test_tables_of_more_rows(self):
        store = (tuple((n, n) for n in range(600)), tuple((n, 0) for n in range(0, 600, 2)))
        self.assertEqual(run(PATH, store, ((0, 1),)), ((tuple((n, n) for n in range(0, 600, 2)), store[1]), (900,)))
        self.assertIs(agree(PATH, store), False)
        self.assertEqual(live(PATH, store)[0], tuple((n, n) for n in range(0, 600, 2)))

    def test_agree(self):
        told = set()
        for query, store in list(samples(200, 3, 4, 2, 6, 310)) + [(q, live_store(q, s)) for q, s in samples(60, 3, 3, 2, 6, 320)]:
            told.add(plain_agree(query, store))
            self.assertIs(agree(query, store), plain_agree(query, store))
        self.assertEqual(told, {True, False})

    def test_program_of(self):
        for query in acyclic_queries(60, 5, 5, 330):
            for tree in list(trees_of(query))[:20]:
                links = [(depth(tree, at), at) for at in range(len(tree)) if tree[at] != at]
                down = [(at, tree[at]) for _, at in sorted(links, key=lambda link: (-link[0], link[1]))]
                told = tuple([(up, at) for at, up in down] + down[::-1])
                self.assertEqual(program_of(query, tree), told)
        self.assertEqual(program_of(LINE, (1, 1, 1)), ((1, 0), (1, 2), (2, 1), (0, 1)))
        self.assertEqual(program_of(LINE, (0, 0, 1)), ((1, 2), (0, 1), (1, 0), (2, 1)))
        self.assertEqual(program_of(ONE, (0,)), ())

    def test_live(self):
        for query, store in acyclic_samples(150, 4, 5, 3, 9, 340):
            self.assertEqual(live(query, store), live_store(query, store))
            for tree in list(trees_of(query))[:6]:
                self.assertEqual(run(query, store, program_of(query, tree))[0], live_store(query, store))

    def test_acyclic_exactly_if_agreeing_tables_are_live(self):
        for query, limit in ((PATH, 2), (THREE, 3), (EQUAL, 2), ((2, ((0,), (0, 1), (1,))), 2)):
            for store in list(all_stores(query, limit))[::3]:
                if plain_agree(query, store):
                    self.assertEqual(live(query, store), store)
                    self.assertEqual(live_store(query, store), store)

    def test_cyclic(self):
        for query in list(small_queries())[::9] + list(some_queries(60, 5, 5, 350)) + list(NAMED):
            if not has_ears(query):
                for _ in range(2):
                    with self.assertRaises(Cyclic) as caught:
                        live(query, tuple(() for _ in query[1]))
                    self.assertEqual(caught.exception.knot, knot(query))


class TestJoined(unittest.TestCase):

    def test_joined(self):
        for query, store in acyclic_samples(120, 4, 5, 3, 9, 360):
            rows = plain_answers(query, store)
            there = live_store(query, store)
            for tree in list(trees_of(query))[::7]:
                found, many = joined(query, store, tree)
                self.assertEqual(found, rows)
                sequence = [at for _, at in sorted((depth(tree, at), at) for at in range(len(tree)))]
                told = [len(plain_table(query, there, sequence[:k + 1])[1]) for k in range(len(sequence))]
                self.assertEqual(many, tuple(told))
                self.assertTrue(all(number <= len(rows) for number in many))

    def test_by_hand(self):
        self.assertEqual(joined(PATH, (((0, 0), (1, 0)), ((0, 5),)), (1, 1)), (((0, 0, 5), (1, 0, 5)), (1, 2)))
        self.assertEqual(joined(PATH, ((), ((0, 5),)), (1, 1)), ((), (0, 0)))
        self.assertEqual(joined(ONE, (((4,), (5,)),), (0,)), (((4,), (5,)), (2,)))
        store = tuple(tuple((n,) for n in range(20)) for _ in range(3))
        found, many = joined((3, ((0,), (1,), (2,))), store, (0, 0, 1))
        self.assertEqual((len(found), many), (8000, (20, 400, 8000)))


class TestFull(unittest.TestCase):

    def check_escape(self, query, program):
        store = escape(query, program)
        self.assertIs(is_full(query, program), store is None)
        if store is None:
            self.assertTrue(has_ears(query))
            return
        self.assertTrue(good_store(query, store))
        self.assertLessEqual(sum(len(table) for table in store), 1000)
        left = run(query, store, program)[0]
        self.assertEqual(left, plain_run(query, store, program)[0])
        self.assertNotEqual(left, plain_live(query, store))
        if not has_ears(query):
            self.assertTrue(all(n in (0, 1) for table in store for row in table for n in row))

    def test_by_hand(self):
        self.assertIs(is_full(PATH, ((0, 1), (1, 0))), True)
        self.assertIs(is_full(PATH, ((0, 1),)), False)
        self.assertIs(is_full(LINE, ((0, 1), (1, 2), (2, 1), (1, 0))), False)
        self.assertIsNone(escape(ONE, ()))
        for program in ((), ((0, 1),), ((0, 1), (1, 2), (2, 1), (1, 0))):
            self.check_escape(LINE, program)

    def test_full_exactly_if_all_small_stores_are_left_live(self):
        for query in (PATH, THREE, (2, ((0,), (1,))), (2, ((0, 1), (0,), (1,)))):
            many = len(query[1])
            semijoins = [(one, other) for one in range(many) for other in range(many) if one != other]
            stores = [(store, live_store(query, store)) for store in all_stores(query, 2)]
            for length in range(4 if many == 2 else 5):
                for program in list(product(semijoins, repeat=length))[::1 if length < 4 else 6]:
                    told = all(plain_run(query, store, program)[0] == there for store, there in stores)
                    self.assertIs(is_full(query, program), told, (query, program))
                    self.check_escape(query, program)

    def test_programs_of_trees_are_the_shortest_full_ones(self):
        dice = Dice(31)
        for query in acyclic_queries(40, 4, 4, 370):
            least = 2 * (len(query[1]) - 1)
            for tree in list(trees_of(query))[:4]:
                program = program_of(query, tree)
                self.assertEqual(len(program), least)
                self.assertIs(is_full(query, program), True)
                more = program
                while len(more) < 12 and len(query[1]) > 1:
                    at = dice.below(len(more) + 1)
                    more = more[:at] + some_program(dice, len(query[1]), 1) + more[at:]
                    self.assertIs(is_full(query, more), True)
                for k in range(least):
                    self.check_escape(query, program[:k] + program[k + 1:])
                    self.assertIs(is_full(query, program[:k] + program[k + 1:]), False)
            for _ in range(6):
                program = some_program(dice, len(query[1]), 7)
                self.check_escape(query, program)
                self.assertTrue(len(program) >= least or not is_full(query, program))

    def test_full_programs_leave_just_live_rows(self):
        dice = Dice(37)
        told = []
        for query in acyclic_queries(60, 4, 4, 380):
            for _ in range(10):
                program = some_program(dice, len(query[1]), 9)
                told.append(is_full(query, program))
                for _ in range(4 if told[-1] else 0):
                    store = some_store(dice, query, 3, 8)
                    self.assertEqual(run(query, store, program)[0], live_store(query, store))
        self.assertIn(True, told)
        self.assertIn(False, told)

    def test_cyclic(self):
        dice = Dice(41)
        for query in list(some_queries(60, 5, 5, 390)) + [TRIANGLE, RING, WIDE, LINES]:
            if not has_ears(query):
                self.check_escape(query, some_program(dice, len(query[1]), 14))

    def test_many_rows(self):
        program = tuple([(0, 1) if k % 2 else (1, 0) for k in range(14)])
        store = escape(LINE, program)
        self.assertEqual(sorted(len(table) for table in store), [0, 377, 610])
        self.assertNotEqual(run(LINE, store, program)[0], live(LINE, store))
        self.assertEqual(live(LINE, store), ((), (), ()))
        self.assertIs(agree(LINE, store), False)
        eight = (8, tuple((0, k) for k in range(1, 8)))
        self.check_escape(eight, tuple((k % 7, (k + 1) % 7) for k in range(14)))


class TestWrong(unittest.TestCase):

    def test_wrong(self):
        program = (BadProgram, lambda *arguments: good_program(arguments[0], arguments[-1]))
        tree = (BadTree, lambda *arguments: good_tree(arguments[0], arguments[-1]))
        store = (((0, 0),), ((0, 5),))
        check_guards(self, is_program, (PATH, ((0, 1),)), [QUERY])
        check_guards(self, run, (TRIANGLE, TRIANGLE_STORE, ((0, 1), (2, 1))), [QUERY, STORE, program])
        check_guards(self, agree, (TRIANGLE, TRIANGLE_STORE), [QUERY, STORE])
        check_guards(self, live, (PATH, store), [QUERY, STORE])
        check_guards(self, program_of, (COVERED, (3, 3, 3, 3)), [QUERY, tree])
        check_guards(self, joined, (PATH, store, (0, 0)), [QUERY, STORE, tree])
        for function in (escape, is_full):
            check_guards(self, function, (PATH, ((0, 1),)), [QUERY, program])
            check_guards(self, function, (TRIANGLE, ((0, 1),)), [QUERY, program])

    def test_the_tree_is_asked_ahead_of_the_knot(self):
        for tree in ((0, 0, 0), (0, 0, 1), None):
            with self.assertRaises(BadTree):
                joined(TRIANGLE, TRIANGLE_STORE, tree)
            with self.assertRaises(BadTree):
                program_of(TRIANGLE, tree)
        self.assertIsNone(tree_of(TRIANGLE))


if __name__ == "__main__":
    unittest.main()
