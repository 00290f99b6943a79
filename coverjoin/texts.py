"""Queries, stores and answers as texts, and what texts are read as."""

from coverjoin.checks import are_from, check_query, check_store, is_ascending, is_query
from coverjoin.errors import BadAnswers, BadText

FIGURES = "0123456789"

# The most figures of a number.
LONGEST = 18

# The most atoms of a query.
ATOMS = 8


def numbers_text(numbers):
    return " ".join([str(number) for number in numbers])


def _text(lines):
    return "".join([line + "\n" for line in lines])


def query_text(query):
    check_query(query)
    many, atoms = query
    return _text([f"query {many}"] + ["atom " + numbers_text(atom) for atom in atoms])


def store_text(query, store):
    check_store(query, store)
    lines = []
    for table in store:
        lines.append("table")
        lines.extend([numbers_text(row) for row in table])
    return _text(lines)


def answers_text(query, found):
    check_query(query)
    if not isinstance(found, (list, tuple)) or not all(are_from(answer, query[0], 0) for answer in found):
        raise BadAnswers("not a list of tuples of numbers")
    return _text([numbers_text(answer) for answer in found])


def _read_number(word):
    """The number that a word is, None if it is none."""
    if not 1 <= len(word) <= LONGEST or not all(figure in FIGURES for figure in word):
        return None
    if word[0] == "0" and len(word) > 1:
        return None
    return int(word)


def read_numbers(words):
    """The tuple of the numbers that words are, None if one is none."""
    numbers = tuple([_read_number(word) for word in words])
    return None if None in numbers else numbers


def _lines(text):
    """The lines of any value; what stands behind the last end of a line is one, too."""
    if not isinstance(text, str):
        raise BadText(0)
    return text.split("\n")


def _numbers_behind(word, line):
    """The numbers behind the word with which a line begins, None if it is not such a line."""
    words = line.split(" ")
    return read_numbers(words[1:]) if words[0] == word else None


def _may_go_on(many, atoms):
    """Whether a query with so many attributes can begin with these atoms, the last one being new."""
    if len(atoms[-1]) == 0 or not is_ascending(atoms[-1]) or atoms[-1][-1] >= many:
        return False
    # Behind all but the last possible atom there may come one with all attributes.
    return len(atoms) < ATOMS or is_query((many, atoms))


def read_query(text):
    lines = _lines(text)
    many = None
    atoms = ()
    for k in range(len(lines) - 1):
        numbers = _numbers_behind("atom" if k > 0 else "query", lines[k])
        if numbers is None:
            raise BadText(k + 1)
        if k == 0:
            if len(numbers) != 1 or not 1 <= numbers[0] <= 8:
                raise BadText(1)
            many = numbers[0]
        else:
            atoms = atoms + (numbers,)
            if not _may_go_on(many, atoms):
                raise BadText(k + 1)
    if lines[-1] != "" or not is_query((many, atoms)):
        raise BadText(len(lines))
    return many, atoms


def _is_next_row(width, table, row):
    """Whether a row, None if there is none, can stand behind those that the table has."""
    if row is None or len(row) != width:
        return False
    return len(table) == 0 or is_ascending((table[-1], row))


def read_store(query, text):
    check_query(query)
    lines = _lines(text)
    tables = []
    for k in range(len(lines) - 1):
        if lines[k] == "table" and len(tables) < len(query[1]):
            tables.append([])
        else:
            row = read_numbers(lines[k].split(" "))
            if len(tables) == 0 or not _is_next_row(len(query[1][len(tables) - 1]), tables[-1], row):
                raise BadText(k + 1)
            tables[-1].append(row)
    if lines[-1] != "" or len(tables) < len(query[1]):
        raise BadText(len(lines))
    return tuple([tuple(table) for table in tables])
