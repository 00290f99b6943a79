import unittest

from coverjoin.acyclic import knot
from coverjoin.bounds import least_cover
from coverjoin.counts import count
from coverjoin.desk import Desk
from coverjoin.errors import BadLine
from coverjoin.shares import most_within
from coverjoin.texts import query_text, store_text
from helper import EQUAL, LAST, NAMED, ONE, PATH, QUERY, RING, TRIANGLE, TRIANGLE_STORE, Dice, check_guards, comes_to
from helper import every_kind, has_ears, plain_answers, raised, some_queries, some_store


def line_of(*words):
    return " ".join(str(word) for word in words)


def filled(query, store):
    desk = Desk(query)
    for at, table in enumerate(store):
        for row in table:
            assert desk.say(line_of("put", at, *row)) == "put"
    return desk


class PlainDesk:
    """A desk by plain dicts and lists of lines that it knows."""

    def __init__(self, query):
        self.query = query
        self.tables = [set() for _ in query[1]]

    def store(self):
        return tuple(tuple(sorted(table)) for table in self.tables)

    def say(self, line):
        words = line.split(" ")
        for word in words[1:]:
            if word == "" or len(word) > 18 or set(word) - set("0123456789") or (word[0] == "0" and word != "0"):
                return "what"
        told = [int(word) for word in words[1:]]
        found = plain_answers(self.query, self.store())
        alone = {"query": query_text(self.query)[:-1], "tables": store_text(self.query, self.store())[:-1],
                 "answers": "\n".join(line_of(*row) for row in found) or "none", "count": str(len(found)),
                 "bound": self.bound(), "tree": self.tree()}
        if words[0] in alone:
            return "what" if told else alone[words[0]]
        if words[0] == "answer" and len(told) == 1:
            return line_of(*found[told[0]]) if told[0] < len(found) else "none"
        if words[0] == "is" and len(told) == self.query[0]:
            return "yes" if tuple(told) in found else "no"
        if words[0] in ("put", "take") and told and told[0] < len(self.tables):
            if len(told) == len(self.query[1][told[0]]) + 1:
                return self.change(words[0], self.tables[told[0]], tuple(told[1:]))
        return "what"

    def change(self, word, table, row):
        if word == "put":
            if row in table:
                return "there already"
            if len(table) == 400:
                return "full"
            table.add(row)
            return "put"
        if row not in table:
            return "not there"
        table.remove(row)
        return "taken"

    def bound(self):
        sizes = tuple(len(table) for table in self.tables)
        if 0 in sizes:
            return "at most 0"
        cover = least_cover(self.query, sizes)
        most = 0
        while comes_to(sizes, cover, most + 1):
            most += 1
        return f"at most {most}"

    def tree(self):
        if has_ears(self.query):
            return "acyclic"
        word, attributes = knot(self.query)
        return line_of(word, *attributes)


class TestByHand(unittest.TestCase):

    def test_an_empty_desk(self):
        desk = Desk(TRIANGLE)
        self.assertEqual(desk.query, TRIANGLE)
        self.assertEqual(desk.store(), ((), (), ()))
        for line, told in (("put 0 0 1", "put"), ("put 0 0 1", "there already"), ("put 3 0 1", "what"), ("bound", "at most 0"),
                           ("tree", "lot 0 1 2"), ("count", "0"), ("answers", "none"), ("answer 0", "none"), ("is 0 0 0", "no"),
                           ("tables", "table\n0 1\ntable\ntable"), ("query", "query 3\natom 0 1\natom 0 2\natom 1 2")):
            self.assertEqual(desk.say(line), told, line)
        self.assertEqual(desk.store(), (((0, 1),), (), ()))

    def test_the_tables_of_point_13(self):
        desk = filled(TRIANGLE, TRIANGLE_STORE)
        self.assertEqual(desk.store(), TRIANGLE_STORE)
        for line, told in (("count", "3"), ("answer 0", "0 0 0"), ("answer 1", "0 1 0"), ("answer 2", "1 0 0"),
                           ("answer 3", "none"), ("answer 999999999999999999", "none"), ("bound", "at most 4"),
                           ("answers", "0 0 0\n0 1 0\n1 0 0"), ("is 0 1 0", "yes"), ("is 0 1 1", "no"), ("take 0 0 0", "taken"),
                           ("take 0 0 0", "not there"), ("count", "2"),
                           ("tables", "table\n0 1\n1 0\ntable\n0 0\n0 1\n1 0\ntable\n0 0\n1 0")):
            self.assertEqual(desk.say(line), told, line)

    def test_any_other_line(self):
        desk = filled(TRIANGLE, TRIANGLE_STORE)
        for line in ("", " ", "put", "put 0", "put 0 1", "put 0 1 2 3", "put 0 1 2 ", " put 0 1 2", "put  0 1 2", "put 0 01 2",
                     "put 0 -1 2", "put 0 +1 2", "put 00 1 2", "put 0 1 1000000000000000000", "put 1000000000000000000 1 2",
                     "put 999999999999999999 1 2", "PUT 0 1 2", "put 0 1 2\n", "put 0\t1 2", "put 0 1 x", "put 0 1 1.0", "put 0 1 1_0",
                     "put 0 1 \u0661", "put 0 1 \xb2", "take 0 1", "take 3 0 0", "take", "query ", "query 0", "tables 0", "answers 0",
                     "count 0", "answer", "answer 00", "answer -1", "answer 0 0", "answer 1000000000000000000", "is", "is 0 0",
                     "is 0 0 0 0", "is 0 0 00", "bound 0", "tree 0", "trees", "\n", "count\n", "quit", "what", "0 1 2", "put,0,1,2"):
            self.assertEqual(desk.say(line), "what", line)
        self.assertEqual(desk.store(), TRIANGLE_STORE)

    def test_great_numbers(self):
        desk = Desk(PATH)
        self.assertEqual(desk.say(f"put 0 0 {LAST}"), "put")
        self.assertEqual(desk.say(f"put 1 {LAST} {LAST}"), "put")
        self.assertEqual(desk.say("answers"), f"0 {LAST} {LAST}")
        self.assertEqual(desk.say(f"is 0 {LAST} {LAST}"), "yes")
        self.assertEqual(desk.say(f"is 0 {LAST} {LAST - 1}"), "no")

    def test_trees(self):
        self.assertEqual(Desk(RING).say("tree"), "ring 0 1 2 3")
        for query in (*NAMED, *some_queries(60, 7, 7, 1221)):
            self.assertEqual(Desk(query).say("tree"), PlainDesk(query).tree())


class TestFull(unittest.TestCase):

    def test_399_and_400_rows(self):
        desk = Desk((2, ((0, 1), (1,))))
        for n in range(400):
            self.assertEqual(desk.say(line_of("put", 0, n, n % 7)), "put")
        self.assertEqual(desk.say("put 0 400 0"), "full")
        self.assertEqual(desk.say("put 0 399 0"), "there already")
        self.assertEqual(desk.say("put 0 399 1"), "full")
        self.assertEqual(desk.say("put 0 400"), "what")
        self.assertEqual(desk.say("put 1 6"), "put")
        self.assertEqual(desk.say("take 0 400 0"), "not there")
        self.assertEqual(desk.say("take 0 0 0"), "taken")
        self.assertEqual(len(desk.store()[0]), 399)
        self.assertEqual(desk.say("put 0 400 0"), "put")
        self.assertEqual(desk.say("put 0 0 0"), "full")
        self.assertEqual(desk.say("count"), "57")
        self.assertEqual(desk.say("bound"), "at most 400")

    def test_far_more_answers_than_could_be_gone_through(self):
        query = (3, ((0,), (1,), (2,)))
        desk = filled(query, (tuple((2 * n,) for n in range(400)),) * 3)
        self.assertEqual(desk.say("count"), str(400 ** 3))
        self.assertEqual(desk.say("bound"), f"at most {400 ** 3}")
        for place in (0, 1, 399, 400, 160000, 12345678, 400 ** 3 - 1):
            numbers = (2 * (place // 160000), 2 * (place // 400 % 400), 2 * (place % 400))
            self.assertEqual(desk.say(line_of("answer", place)), line_of(*numbers))
        self.assertEqual(desk.say(line_of("answer", 400 ** 3)), "none")
        self.assertEqual(desk.say("is 0 798 2"), "yes")

    def test_answers_at_places_of_a_path(self):
        full = tuple((m, n) for m in range(20) for n in range(20))
        desk = filled(PATH, (full, full[::3]))
        rows = [(a, b, c) for a in range(20) for b in range(20) for c in range(20) if (20 * b + c) % 3 == 0]
        self.assertEqual(desk.say("count"), str(len(rows)))
        for place in range(0, len(rows), 97):
            self.assertEqual(desk.say(line_of("answer", place)), line_of(*rows[place]))
        long = (4, ((0, 1), (1, 2), (2, 3)))
        desk = filled(long, (full, full, full))
        for place in (0, 1, 19, 20, 159999, 77777, 123456):
            numbers = (place // 8000, place // 400 % 20, place // 20 % 20, place % 20)
            self.assertEqual(desk.say(line_of("answer", place)), line_of(*numbers))
        self.assertEqual(desk.say("answer 160000"), "none")
        ring = filled(RING, (full, full, full, full[::7]))
        rows = [(a, b, c, d) for a in range(20) for b in range(20) for c in range(20) for d in range(20) if (20 * a + d) % 7 == 0]
        self.assertGreater(len(rows), 20000)
        for place in (0, 1, 20001, len(rows) - 1):
            self.assertEqual(ring.say(line_of("answer", place)), line_of(*rows[place]))
        self.assertEqual(ring.say("count"), str(len(rows)))


class TestLines(unittest.TestCase):

    def some_line(self, dice, query):
        atom = dice.below(len(query[1]) + (dice.below(12) == 0))
        width = len(query[1][atom]) if atom < len(query[1]) else 2
        width += (dice.below(15) == 0) - (dice.below(15) == 0)
        row = [dice.below(3) for _ in range(width)]
        words = dice.one_of([["put", atom, *row]] * 6 + [["take", atom, *row]] * 3 + [
            ["query"], ["tables"], ["answers"], ["count"], ["answer", dice.below(4)], ["bound"], ["tree"], ["answer"],
            ["is", *[dice.below(3) for _ in range(query[0])]], ["is", *row], ["count", 0], ["put"], ["take", "x"]])
        line = line_of(*words)
        if dice.below(20) == 0:
            k = dice.below(len(line) + 1)
            line = line[:k] + dice.one_of([" ", "0", "x", "\n", "-"]) + line[k:]
        return line

    def test_line_by_line(self):
        dice = Dice(1222)
        told = {}
        for query in (ONE, PATH, EQUAL, TRIANGLE, RING, *some_queries(25, 4, 4, 1223)):
            desk, plain = Desk(query), PlainDesk(query)
            for _ in range(120):
                line = self.some_line(dice, query)
                answer = desk.say(line)
                self.assertEqual(answer, plain.say(line), (query, line))
                self.assertFalse(answer.endswith("\n"))
                self.assertEqual(desk.store(), plain.store())
                told[answer] = told.get(answer, 0) + 1
        for answer in ("put", "there already", "taken", "not there", "what", "none", "yes", "no"):
            self.assertGreater(told[answer], 5, answer)

    def test_counts_and_bounds(self):
        dice = Dice(1224)
        for query in some_queries(60, 5, 5, 1225):
            store = some_store(dice, query, 3, 8)
            desk = filled(query, store)
            if has_ears(query):
                self.assertEqual(desk.say("count"), str(count(query, store)))
            sizes = tuple(len(table) for table in store)
            if 0 not in sizes:
                self.assertEqual(desk.say("bound"), f"at most {most_within(query, sizes, least_cover(query, sizes))}")
            self.assertLessEqual(int(desk.say("count")), int(desk.say("bound").split(" ")[2]))

    def test_two_desks(self):
        one, other = Desk(ONE), Desk(ONE)
        one.say("put 0 5")
        self.assertEqual((one.store(), other.store()), ((((5,),),), ((),)))
        for value in every_kind():
            self.assertFalse(one == value)


class TestWrong(unittest.TestCase):

    def test_wrong(self):
        check_guards(self, Desk, (TRIANGLE,), [QUERY])
        desk = filled(TRIANGLE, TRIANGLE_STORE)
        for value in every_kind() + [b"count", ["count"], ("count",)]:
            if not isinstance(value, str):
                self.assertIs(type(raised(desk.say, value)), BadLine, value)
        self.assertEqual(desk.store(), TRIANGLE_STORE)


if __name__ == "__main__":
    unittest.main()
