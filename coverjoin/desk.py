"""A desk that keeps a store and answers lines."""

from coverjoin.acyclic import knot
from coverjoin.answers import answers, is_answer
from coverjoin.bounds import least_cover
from coverjoin.checks import check_query
from coverjoin.engine import products_sum
from coverjoin.errors import BadLine
from coverjoin.shares import most_within
from coverjoin.tables import sizes, values_at
from coverjoin.texts import answers_text, numbers_text, query_text, read_numbers, store_text

# The most rows of a table.
ROWS = 400

# The most answers that are told, and gone through to find the one at a place.
TOLD = 20000


class Desk:
    """A store for a query, whose tables are empty at first, and the answers to lines about it."""

    def __init__(self, query):
        check_query(query)
        self.query = query
        # How often each row is there: just once.
        self._tables = [{} for _ in query[1]]

    def store(self):
        return tuple([tuple(sorted(table)) for table in self._tables])

    def say(self, line):
        if not isinstance(line, str):
            raise BadLine("not a string")
        words = line.split(" ")
        numbers = read_numbers(words[1:])
        found = None
        if numbers is not None:
            found = self._asked(words[0]) if len(numbers) == 0 else self._done(words[0], numbers)
        return "what" if found is None else found

    def _asked(self, word):
        """The answer to a word alone, None if it is no line."""
        if word == "query":
            return query_text(self.query)[:-1]
        if word == "tables":
            return store_text(self.query, self.store())[:-1]
        if word == "answers":
            return answers_text(self.query, answers(self.query, self.store()))[:-1] or "none"
        if word == "count":
            return str(products_sum(self.query, self._tables))
        if word == "bound":
            return f"at most {self._bound()}"
        return self._tree() if word == "tree" else None

    def _done(self, word, numbers):
        """The answer to a word with numbers behind it, None if it is no line."""
        if word == "answer" and len(numbers) == 1:
            return self._answer(numbers[0])
        if word == "is" and len(numbers) == self.query[0]:
            return "yes" if is_answer(self.query, self.store(), numbers) else "no"
        at, row = numbers[0], numbers[1:]
        if word not in ("put", "take") or at >= len(self._tables) or len(row) != len(self.query[1][at]):
            return None
        return self._put(at, row) if word == "put" else self._take(at, row)

    def _put(self, at, row):
        if row in self._tables[at]:
            return "there already"
        if len(self._tables[at]) >= ROWS:
            return "full"
        self._tables[at][row] = 1
        return "put"

    def _take(self, at, row):
        if row not in self._tables[at]:
            return "not there"
        del self._tables[at][row]
        return "taken"

    def _bound(self):
        counts = sizes(self.query, self.store())
        return 0 if 0 in counts else most_within(self.query, counts, least_cover(self.query, counts))

    def _tree(self):
        found = knot(self.query)
        return "acyclic" if found is None else f"{found[0]} {numbers_text(found[1])}"

    def _answer(self, place):
        many = products_sum(self.query, self._tables)
        if place >= many:
            return "none"
        if many <= TOLD:
            return numbers_text(answers(self.query, self.store())[place])
        return numbers_text(_answer_at(self.query, self.store(), place))


def _rows_from(query, store, attribute, low, high):
    """The tables with only those rows that have a number from low to high at the attribute, or do not have it,
    each with how often they are there."""
    tables = []
    for at in range(len(store)):
        rows = store[at]
        if attribute in query[1][at]:
            place = query[1][at].index(attribute)
            rows = [row for row in rows if low <= row[place] <= high]
        tables.append({row: 1 for row in rows})
    return tables


def _answer_at(query, store, place):
    """The answer at a place, one number behind another, without going through those ahead."""
    known = ()
    for attribute in range(query[0]):
        numbers = values_at(query, store, attribute)
        # Fewer answers than this have a number ahead of the one at low, and no fewer one up to that at high.
        low, high = 0, len(numbers) - 1
        while low < high:
            middle = (low + high) // 2
            if products_sum(query, _rows_from(query, store, attribute, 0, numbers[middle])) > place:
                high = middle
            else:
                low = middle + 1
        if low > 0:
            place = place - products_sum(query, _rows_from(query, store, attribute, 0, numbers[low - 1]))
        store = tuple([tuple(table) for table in _rows_from(query, store, attribute, numbers[low], numbers[low])])
        known = known + (numbers[low],)
    return known
