"""What is a number, a query and a store, and the errors for what is none."""

from coverjoin.errors import BadAtom, BadAttribute, BadAttributes, BadNumber, BadQuery, BadStore

# The least number from 0 on that has too many digits.
LIMIT = 10 ** 18


def is_number(value):
    return isinstance(value, int) and not isinstance(value, bool) and -LIMIT < value < LIMIT


def is_from(value, low):
    """Whether any value is a number from low on."""
    return is_number(value) and value >= low


def is_below(value, many):
    """Whether any value is one of the numbers from 0 to many - 1."""
    return is_number(value) and 0 <= value < many


def are_from(value, many, low):
    """Whether any value is a tuple of so many numbers from low on."""
    if not isinstance(value, tuple) or len(value) != many:
        return False
    return all(is_from(item, low) for item in value)


def is_pair(value):
    return isinstance(value, tuple) and len(value) == 2


def is_ascending(items):
    """Whether items that can be compared stand in ascending sequence, each once."""
    return all(items[k] < items[k + 1] for k in range(len(items) - 1))


def are_below(value, many):
    """Whether any value is an ascending tuple, perhaps empty, of numbers from 0 to many - 1."""
    if not isinstance(value, tuple):
        return False
    return all(is_below(item, many) for item in value) and is_ascending(value)


def is_query(value):
    if not is_pair(value):
        return False
    many, atoms = value
    if not is_number(many) or not 1 <= many <= 8:
        return False
    if not isinstance(atoms, tuple) or not 1 <= len(atoms) <= 8:
        return False
    if not all(are_below(atom, many) and len(atom) > 0 for atom in atoms):
        return False
    held = [attribute for atom in atoms for attribute in atom]
    return all(attribute in held for attribute in range(many))


def check_query(query):
    if not is_query(query):
        raise BadQuery("not a query")


def is_table(width, value):
    """Whether any value is a table for an atom with so many attributes."""
    if not isinstance(value, tuple):
        return False
    return all(are_from(row, width, 0) for row in value) and is_ascending(value)


def is_store(query, value):
    check_query(query)
    atoms = query[1]
    if not isinstance(value, tuple) or len(value) != len(atoms):
        return False
    return all(is_table(len(atoms[k]), value[k]) for k in range(len(atoms)))


def check_store(query, store):
    if not is_store(query, store):
        raise BadStore("not a store for the query")


def check_attribute(query, attribute):
    if not is_below(attribute, query[0]):
        raise BadAttribute("not an attribute of the query")


def check_attributes(query, attributes):
    if not are_below(attributes, query[0]):
        raise BadAttributes("not an ascending tuple of attributes")


def check_atom(query, at):
    if not is_below(at, len(query[1])):
        raise BadAtom("not the number of an atom")


def check_number(number):
    if not is_from(number, 0):
        raise BadNumber("not a number from 0 on")
