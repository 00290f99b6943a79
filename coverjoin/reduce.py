"""Semijoins, programs of them, and the stores that programs which are not full leave too much of."""

from coverjoin.acyclic import check_acyclic, check_tree, depths, is_acyclic, knot_store, tree_of
from coverjoin.checks import check_query, check_store, is_below, is_pair
from coverjoin.errors import BadProgram
from coverjoin.tables import parts_at

# The most semijoins that a program may have.
SEMIJOINS = 14


def is_program(query, value):
    check_query(query)
    if not isinstance(value, tuple) or len(value) > SEMIJOINS:
        return False
    return all(_is_semijoin(len(query[1]), item) for item in value)


def _is_semijoin(many, value):
    if not is_pair(value) or not is_below(value[0], many) or not is_below(value[1], many):
        return False
    return value[0] != value[1]


def check_program(query, program):
    if not is_program(query, program):
        raise BadProgram("not a program for the query")


def common_places(query, one, other):
    """The places that the attributes of both atoms have in the one, and in the other."""
    left, right = query[1][one], query[1][other]
    both = [attribute for attribute in left if attribute in right]
    return [left.index(attribute) for attribute in both], [right.index(attribute) for attribute in both]


def _semijoined(query, store, one, other):
    """The rows of one table that meet a row of the other."""
    here, there = common_places(query, one, other)
    met = set(parts_at(store[other], there))
    parts = parts_at(store[one], here)
    return tuple([store[one][k] for k in range(len(parts)) if parts[k] in met])


def _behind(query, store, program):
    tables = list(store)
    looked = []
    for one, other in program:
        looked.append(len(tables[one]) + len(tables[other]))
        tables[one] = _semijoined(query, tables, one, other)
    return tuple(tables), tuple(looked)


def run(query, store, program):
    check_store(query, store)
    check_program(query, program)
    return _behind(query, store, program)


def agree(query, store):
    check_store(query, store)
    many = len(store)
    for one in range(many):
        for other in range(many):
            if one != other and len(_semijoined(query, store, one, other)) < len(store[one]):
                return False
    return True


def by_depth(tree):
    """The atoms of a tree, the root first, those with fewer links up to it ahead, ascending among equals."""
    links = depths(tree)
    return [at for _, at in sorted([(links[k], k) for k in range(len(tree))])]


def program_along(tree):
    links = depths(tree)
    falling = [at for _, at in sorted([(-links[k], k) for k in range(len(tree))]) if tree[at] != at]
    up = [(tree[at], at) for at in falling]
    return tuple(up + [(at, tree[at]) for at in falling[::-1]])


def program_of(query, tree):
    check_query(query)
    check_tree(query, tree)
    return program_along(tree)


def live_along(query, store, tree):
    return _behind(query, store, program_along(tree))[0]


def live(query, store):
    check_store(query, store)
    check_acyclic(query)
    return live_along(query, store, tree_of(query))


def joined(query, store, tree):
    check_store(query, store)
    check_tree(query, tree)
    tables = live_along(query, store, tree)
    held = []
    rows = [()]
    many = []
    for at in by_depth(tree):
        rows = _rows_with(held, rows, query[1][at], tables[at])
        held = held + [attribute for attribute in query[1][at] if attribute not in held]
        many.append(len(rows))
    places = [held.index(attribute) for attribute in range(query[0])]
    return tuple(sorted(parts_at(rows, places))), tuple(many)


def _rows_with(held, rows, atom, table):
    """The rows for the attributes that are held, each with what the table's rows that meet it have further."""
    both = [attribute for attribute in atom if attribute in held]
    places = [atom.index(attribute) for attribute in both]
    further = [k for k in range(len(atom)) if atom[k] not in held]
    behind = {}
    for row in table:
        part = tuple([row[place] for place in places])
        behind.setdefault(part, []).append(tuple([row[k] for k in further]))
    found = []
    here = parts_at(rows, [held.index(attribute) for attribute in both])
    for k in range(len(rows)):
        found.extend([rows[k] + rest for rest in behind.get(here[k], [])])
    return found


# What a program leaves of a table: a row is left exactly if the program's rows behind it are there,
# a row for the table, one for each that it had to meet, one for each that this had to meet before, and
# so on, numbers being the same just where rows had to meet. Here this is a list of pairs (atom, row),
# the table's own row first, whose numbers are as unlike as that allows. So if this row is live in the
# store of all these rows, in each store each row that is left is live; and if not, this store is an escape.


def _rows_behind(query, program, atom):
    rows = []
    waiting = [(atom, len(program), {})]
    # The next number that is nowhere yet.
    fresh = 0
    while len(waiting) > 0:
        at, time, known = waiting.pop()
        numbers = dict(known)
        for attribute in query[1][at]:
            if attribute not in numbers:
                numbers[attribute] = fresh
                fresh += 1
        rows.append((at, tuple([numbers[attribute] for attribute in query[1][at]])))
        for k in range(time):
            if program[k][0] == at:
                other = program[k][1]
                waiting.append((other, k, {a: numbers[a] for a in query[1][other] if a in numbers}))
    return rows


def _store_of(query, rows):
    tables = []
    for at in range(len(query[1])):
        tables.append(tuple(sorted({row for there, row in rows if there == at})))
    return tuple(tables)


def escape(query, program):
    check_query(query)
    check_program(query, program)
    if not is_acyclic(query):
        # There any two tables agree, so no semijoin takes a row out.
        return knot_store(query)
    tree = tree_of(query)
    for atom in range(len(query[1])):
        rows = _rows_behind(query, program, atom)
        store = _store_of(query, rows)
        if rows[0][1] not in live_along(query, store, tree)[atom]:
            return store
    return None


def is_full(query, program):
    return escape(query, program) is None
