"""The tables of a store: their sizes, other names for attributes, and single numbers."""

from coverjoin.checks import are_from, check_attribute, check_number, check_query, check_store
from coverjoin.errors import BadOrder, BadPlaces


def sizes(query, store):
    check_store(query, store)
    return tuple([len(table) for table in store])


def is_order(query, value):
    check_query(query)
    many = query[0]
    return are_from(value, many, 0) and sorted(value) == list(range(many))


def check_order(query, order):
    if not is_order(query, order):
        raise BadOrder("not an order of the query")


def parts_at(rows, places):
    """The list of the parts that rows have at these places, one for each row."""
    return [tuple([row[place] for place in places]) for row in rows]


def renamed(query, store, places):
    check_store(query, store)
    if not is_order(query, places):
        raise BadPlaces("not an order of the query")
    many, atoms = query
    named = [tuple([places[attribute] for attribute in atom]) for atom in atoms]
    tables = [_turned(named[k], store[k]) for k in range(len(atoms))]
    return (many, tuple([tuple(sorted(atom)) for atom in named])), tuple(tables)


def _turned(names, table):
    """The table whose rows stand in the sequence of their names, ascending."""
    turn = [names.index(name) for name in sorted(names)]
    return tuple(sorted(parts_at(table, turn)))


def restricted(query, store, attribute, number):
    check_store(query, store)
    check_attribute(query, attribute)
    check_number(number)
    return tuple([_rows_with(query[1][k], store[k], attribute, number) for k in range(len(store))])


def _rows_with(atom, table, attribute, number):
    if attribute not in atom:
        return table
    place = atom.index(attribute)
    return tuple([row for row in table if row[place] == number])


def values_at(query, store, attribute):
    check_store(query, store)
    check_attribute(query, attribute)
    atoms = query[1]
    having = [k for k in range(len(atoms)) if attribute in atoms[k]]
    # How many of the tables with the attribute have a number there.
    told = {}
    for k in having:
        place = atoms[k].index(attribute)
        for number in sorted({row[place] for row in store[k]}):
            told[number] = told.get(number, 0) + 1
    return tuple(sorted([number for number in told if told[number] == len(having)]))
