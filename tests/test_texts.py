import re
import unittest

from coverjoin.errors import BadAnswers, BadText
from coverjoin.texts import answers_text, query_text, read_query, read_store, store_text
from helper import EQUAL, LAST, NAMED, ONE, PATH, QUERY, STORE, TRIANGLE, TRIANGLE_STORE, WIDE, Dice, all_queries
from helper import check_guards, every_kind, good_query, numbers, plain_answers, raised, samples, some_queries, some_store
from helper import wrong_values

HAND = (2, ((0, 1), (1,)))
HAND_STORE = (((0, 5), (1, 5)), ((5,),))
NUMBER = r"(?:0|[1-9][0-9]{0,17})"


def may_begin_query(lines):
    """Whether lines, each with its end, are a beginning of the text of a query: by trying to end it."""
    if not lines:
        return True
    if not re.fullmatch("query [1-8]", lines[0]):
        return False
    many = int(lines[0][6:])
    atoms = []
    for line in lines[1:]:
        if not re.fullmatch(f"atom( {NUMBER})+", line):
            return False
        atoms.append(tuple(int(word) for word in line.split(" ")[1:]))
    full = tuple(range(many))
    return good_query((many, tuple(atoms))) or good_query((many, (*atoms, full)))


def may_begin_store(query, lines):
    """Whether lines, each with its end, are a beginning of the text of a store."""
    tables = []
    for line in lines:
        if line == "table":
            tables.append([])
        elif tables and len(tables) <= len(query[1]) and re.fullmatch(f"{NUMBER}( {NUMBER})*", line):
            row = tuple(int(word) for word in line.split(" "))
            if len(row) != len(query[1][len(tables) - 1]) or any(row <= other for other in tables[-1]):
                return False
            tables[-1].append(row)
        else:
            return False
    return len(tables) <= len(query[1])


def plain_at(text, may_begin, is_whole):
    """The number of the wrong line of a text, None if it is right."""
    *lines, last = text.split("\n")
    for k in range(1, len(lines) + 1):
        if not may_begin(lines[:k]):
            return k
    return None if last == "" and is_whole(lines) else len(lines) + 1


def plain_query(text):
    def is_whole(lines):
        words = [tuple(int(word) for word in line.split(" ")[1:]) for line in lines]
        return bool(words) and good_query((words[0][0], tuple(words[1:])))
    return plain_at(text, may_begin_query, is_whole)


def plain_store(query, text):
    return plain_at(text, lambda lines: may_begin_store(query, lines), lambda lines: lines.count("table") == len(query[1]))


def changed_texts(dice, text, many):
    """Texts that are unlike this one at a place, by a fixed rule."""
    lines = text.split("\n")
    yield from (text[:-1], text + "\n", "\n" + text, text + " ", " " + text, text[1:], text + text, text.replace(" ", "  "),
                text.replace("\n", "\r\n"), text.replace("\n", " \n"), text.upper(), text.replace(" ", "\t"), text + "0\n")
    for k in range(len(lines)):
        yield "\n".join(lines[:k] + lines[k + 1:])
        yield "\n".join(lines[:k] + lines[k:k + 1] * 2 + lines[k + 1:])
        yield "\n".join(lines[:k])
        yield "\n".join(lines[:k] + [""] + lines[k:])
        yield "\n".join(lines[:k] + ["table"] + lines[k:])
        yield "\n".join(lines[:k] + ["atom 0"] + lines[k:])
        yield "\n".join(lines[:k + 1][::-1] + lines[k + 1:])
    for _ in range(many):
        k = dice.below(len(text) + 1)
        sign = dice.one_of(list("0123456789 \n-+_.taqx") + ["00", "1000000000000000000", "999999999999999999", "\u0661", "\xb2"])
        yield text[:k] + sign + text[k + dice.below(2):]
        yield text[:k]


class TestTexts(unittest.TestCase):

    def test_by_hand(self):
        self.assertEqual(query_text(HAND), "query 2\natom 0 1\natom 1\n")
        self.assertEqual(store_text(HAND, HAND_STORE), "table\n0 5\n1 5\ntable\n5\n")
        self.assertEqual(answers_text(HAND, plain_answers(HAND, HAND_STORE)), "0 5\n1 5\n")
        self.assertEqual(query_text(ONE), "query 1\natom 0\n")
        self.assertEqual(store_text(ONE, ((),)), "table\n")
        self.assertEqual(store_text(EQUAL, ((), (), ())), "table\ntable\ntable\n")
        self.assertEqual((answers_text(ONE, []), answers_text(ONE, ())), ("", ""))
        self.assertEqual(answers_text(HAND, [(3, 0), (LAST, 1), (3, 0)]), f"3 0\n{LAST} 1\n3 0\n")

    def test_what_is_read_is_what_was_told(self):
        for query in (*all_queries(2, 3), *all_queries(3, 2), *NAMED, *some_queries(80, 8, 8, 1201)):
            self.assertEqual(read_query(query_text(query)), query)
        for query, store in samples(120, 4, 5, 12, 12, 1202):
            self.assertEqual(read_store(query, store_text(query, store)), store)
        store = (((0,), (9,), (10,), (10 ** 17,), (LAST,)),)
        self.assertEqual(read_store(ONE, store_text(ONE, store)), store)
        full = tuple((n,) for n in range(400))
        self.assertEqual(read_store((2, ((0,), (1,))), store_text((2, ((0,), (1,))), (full, full))), (full, full))


class TestReadQuery(unittest.TestCase):

    def check_one(self, text):
        at = plain_query(text)
        error = raised(read_query, text)
        if at is None:
            self.assertIsNone(error, text)
            self.assertEqual(query_text(read_query(text)), text)
        else:
            self.assertEqual((type(error), error.at), (BadText, at), text)

    def test_by_hand(self):
        for text, at in (("query 2\natom 0\n", 3), ("query 2\natom 1 0\n", 2), ("", 1), ("\n", 1), ("query 2", 1), ("query 2\n", 2),
                         ("query 2\natom 0 1", 2), ("query 2\natom 0 1\n\n", 3), ("query 2\natom 0 1\nx", 3), ("query 0\n", 1),
                         ("query 9\natom 0\n", 1), ("query 08\n", 1), ("query 2 2\n", 1), ("query\n", 1), ("query  2\n", 1),
                         ("query 1\natom\n", 2), ("query 1\natom 0 0\n", 2), ("query 1\natom 1\n", 2), ("query 1\natom 00\n", 2),
                         ("query 1\natom 0 \n", 2), ("query 1\n atom 0\n", 2), ("query 1\nquery 1\n", 2), ("atom 0\n", 1),
                         ("query 1\natom -0\n", 2), ("query 1\natom 1000000000000000000\n", 2), ("query 1\r\natom 0\n", 1),
                         ("query 3\natom 0\natom 1\n", 4), ("query 1\n\natom 0\n", 2)):
            self.assertEqual(plain_query(text), at, text)
            self.check_one(text)
        for value in every_kind() + [b"query 1\natom 0\n", ["query 1\natom 0\n"]]:
            if not isinstance(value, str):
                self.assertEqual(raised(read_query, value).at, 0)

    def test_an_eighth_atom(self):
        text = "query 2\n" + "atom 0\n" * 7
        self.check_one(text)
        self.assertEqual(raised(read_query, text).at, 9)
        self.assertEqual(raised(read_query, text + "atom 0\n").at, 9)
        self.assertEqual(raised(read_query, text + "atom 0\natom 1\n").at, 9)
        self.assertEqual(read_query(text + "atom 1\n"), (2, ((0,),) * 7 + ((1,),)))
        self.assertEqual(raised(read_query, text + "atom 1\natom 1\n").at, 10)
        self.assertEqual(raised(read_query, text + "atom 1").at, 9)

    def test_changed_texts(self):
        dice = Dice(1203)
        for query in (HAND, ONE, TRIANGLE, WIDE, (8, ((0, 1, 2, 3, 4, 5, 6, 7),) * 8), *some_queries(25, 8, 8, 1204)):
            for text in changed_texts(dice, query_text(query), 60):
                self.check_one(text)


class TestReadStore(unittest.TestCase):

    def check_one(self, query, text):
        at = plain_store(query, text)
        error = raised(read_store, query, text)
        if at is None:
            self.assertIsNone(error, text)
            self.assertEqual(store_text(query, read_store(query, text)), text)
        else:
            self.assertEqual((type(error), error.at), (BadText, at), text)

    def test_by_hand(self):
        for text, at in (("table\n0 5\n0 5\n", 3), ("", 1), ("table\n", 2), ("table\n0 5\n", 3), ("table\ntable", 2),
                         ("table\n0 5\n0 4\n", 3), ("table\n0\n", 2), ("table\n0 5 6\n", 2), ("0 5\n", 1), ("table\ntable\n5\n5\n", 4),
                         ("table\ntable\ntable\n", 3), ("table\ntable\n\n", 3), ("table\n\ntable\n", 2), ("table 0\n", 1),
                         ("table\n00 5\n", 2), ("table\n0 05\n", 2), ("table\n0  5\n", 2), ("table\n0 1000000000000000000\n", 2),
                         ("table\ntable\n5", 3), ("table\ntable\n05\n", 3), ("table\ntable\n5 \n", 3), ("Table\n", 1)):
            self.assertEqual(plain_store(HAND, text), at, text)
            self.check_one(HAND, text)
        self.assertEqual(read_store(HAND, "table\n0 999999999999999999\ntable\n0\n"), (((0, LAST),), ((0,),)))
        self.assertEqual(read_store(HAND, "table\n9 0\n10 0\ntable\n"), (((9, 0), (10, 0)), ()))
        for value in every_kind():
            if not isinstance(value, str):
                self.assertEqual(raised(read_store, HAND, value).at, 0)

    def test_changed_texts(self):
        dice = Dice(1205)
        for query in (HAND, ONE, PATH, TRIANGLE, *some_queries(15, 4, 4, 1206)):
            for limit in (3, 12):
                for text in changed_texts(dice, store_text(query, some_store(dice, query, limit, 5)), 60):
                    self.check_one(query, text)


class TestWrong(unittest.TestCase):

    def test_wrong(self):
        check_guards(self, query_text, (TRIANGLE,), [QUERY])
        check_guards(self, store_text, (TRIANGLE, TRIANGLE_STORE), [QUERY, STORE])

        def good_answers(query, value):
            return type(value) in (list, tuple) and all(numbers(row, query[0], 0) for row in value)
        for good in ([(0, 1, 2), (3, 4, 5)], ((0, 0, 0),), []):
            check_guards(self, answers_text, (TRIANGLE, good), [QUERY, (BadAnswers, good_answers)])
        for value in wrong_values(TRIANGLE):
            if not good_query(value):
                for text in ("table\n", None, ""):
                    self.assertEqual(type(raised(read_store, value, text)).__name__, "BadQuery")


if __name__ == "__main__":
    unittest.main()
