"""Keys of tables, and what they tell of answers."""

from coverjoin.checks import are_below, check_attribute, check_attributes, check_query, check_store
from coverjoin.checks import is_ascending, is_below, is_pair
from coverjoin.errors import BadKeys
from coverjoin.tables import parts_at

# The most keys that there may be.
KEYS = 20


def _is_key(query, value):
    if not is_pair(value) or not is_below(value[0], len(query[1])):
        return False
    place, tellers = value
    if not are_below(tellers, query[0]) or len(tellers) == 0:
        return False
    return all(attribute in query[1][place] for attribute in tellers)


def are_keys(query, value):
    check_query(query)
    if not isinstance(value, tuple) or len(value) > KEYS:
        return False
    return all(_is_key(query, key) for key in value) and is_ascending(value)


def check_keys(query, keys):
    if not are_keys(query, keys):
        raise BadKeys("not an ascending tuple of at most 20 keys")


def broken_key(query, keys, store):
    check_query(query)
    check_keys(query, keys)
    check_store(query, store)
    for place, tellers in keys:
        atom = query[1][place]
        found = _alike(store[place], [atom.index(attribute) for attribute in tellers])
        if found is not None:
            return (place, tellers), found[0], found[1]
    return None


def _alike(table, places):
    """The least pair of rows that are equal at the places, None if there is none."""
    parts = parts_at(table, places)
    last = {}
    for k in range(len(table)):
        last[parts[k]] = k
    for k in range(len(table)):
        if last[parts[k]] > k:
            return table[k], table[parts.index(parts[k], k + 1)]
    return None


def keeps_keys(query, keys, store):
    return broken_key(query, keys, store) is None


def told_with(query, keys, attributes):
    """The ascending tuple of what any attributes tell, and of the keys that tell it, in a sequence
    in which each one's tellers are told ahead of it."""
    told = list(attributes)
    used = []
    at = 0
    while at < len(keys):
        place, tellers = keys[at]
        further = [attribute for attribute in query[1][place] if attribute not in told]
        if len(further) > 0 and all(attribute in told for attribute in tellers):
            told.extend(further)
            used.append(keys[at])
            # A key that was passed by may tell more now.
            at = 0
        else:
            at += 1
    return tuple(sorted(told)), used


def told_by(query, keys, attributes):
    check_query(query)
    check_keys(query, keys)
    check_attributes(query, attributes)
    return told_with(query, keys, attributes)[0]


def _check_asked(query, keys, attributes, attribute):
    check_query(query)
    check_keys(query, keys)
    check_attributes(query, attributes)
    check_attribute(query, attribute)


def telling(query, keys, attributes, attribute):
    _check_asked(query, keys, attributes, attribute)
    told, used = told_with(query, keys, attributes)
    return tuple(used) if attribute in told else None


def is_telling(query, keys, attributes, attribute, value):
    _check_asked(query, keys, attributes, attribute)
    if not isinstance(value, tuple):
        return False
    # What is no key at all is kept from being compared: True would be taken for 1.
    if not all(_is_key(query, key) and key in keys for key in value):
        return False
    told = list(attributes)
    for place, tellers in value:
        if not all(teller in told for teller in tellers):
            return False
        told.extend(query[1][place])
    return attribute in told


def two_answers(query, keys, attributes):
    told = told_by(query, keys, attributes)
    return tuple([_two_rows(atom, told) for atom in query[1]])


def _two_rows(atom, told):
    """The row of 0 alone, and the one with 1 at what is not told, once if they are the same."""
    zeros = (0,) * len(atom)
    row = tuple([0 if attribute in told else 1 for attribute in atom])
    return (zeros,) if row == zeros else (zeros, row)
