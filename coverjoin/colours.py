"""Chains of what keys tell, the bound by them, and stores of colours that come to it."""

from coverjoin.bounds import ROWS, all_rows, check_root, few_power
from coverjoin.checks import are_from, check_attributes, check_query, is_ascending
from coverjoin.covers import are_equal, check_exponents, do_fit, least_by_exponents, sum_of
from coverjoin.errors import BadColouring, NotSimple, TooMany
from coverjoin.keys import check_keys, told_with
from coverjoin.shares import is_fraction
from coverjoin.tables import check_order


def _told(query, keys, attributes):
    return told_with(query, keys, attributes)[0]


def _check_chain(query, keys, order):
    check_query(query)
    check_keys(query, keys)
    check_order(query, order)


def key_chain(query, keys, order):
    _check_chain(query, keys, order)
    chain = [()]
    for many in range(1, len(order) + 1):
        told = _told(query, keys, order[:many])
        if len(told) > len(chain[-1]):
            chain.append(told)
    return tuple(chain)


def chain_reaches(query, keys, order):
    chain = key_chain(query, keys, order)
    reaches = []
    for k in range(1, len(chain)):
        places = [at for at in range(len(query[1])) if _reaches(query, keys, at, chain[k - 1], chain[k])]
        reaches.append(tuple(places))
    return tuple(reaches)


def _reaches(query, keys, at, before, behind):
    told = _told(query, keys, query[1][at])
    known = list(before) + [attribute for attribute in behind if attribute in told and attribute not in before]
    reached = _told(query, keys, known)
    return all(attribute in reached for attribute in behind)


def is_chain_cover(query, keys, order, value):
    reaches = chain_reaches(query, keys, order)
    if not is_fraction(value, len(query[1])):
        return False
    return all(sum([value[0][at] for at in places]) >= value[1] for places in reaches)


def _steps_of(query, reaches):
    """For each atom the list of the steps that it reaches."""
    return [[k for k in range(len(reaches)) if at in reaches[k]] for at in range(len(query[1]))]


def least_chain(query, keys, order, exponents):
    reaches = chain_reaches(query, keys, order)
    check_exponents(query, exponents)
    return least_by_exponents(_steps_of(query, reaches), len(reaches), exponents)


def is_least_chain(query, keys, order, exponents, cover, weights):
    reaches = chain_reaches(query, keys, order)
    check_exponents(query, exponents)
    if not is_chain_cover(query, keys, order, cover) or not is_fraction(weights, len(reaches)):
        return False
    if not do_fit(_steps_of(query, reaches), exponents, weights):
        return False
    return are_equal(sum_of(cover, exponents), (sum(weights[0]), weights[1]))


def is_colouring(query, keys, value):
    check_query(query)
    check_keys(query, keys)
    if not isinstance(value, tuple) or len(value) != query[0]:
        return False
    if not all(_are_colours(colours) for colours in value):
        return False
    return all(_keeps_colours(query[1][place], tellers, value) for place, tellers in keys)


def _are_colours(value):
    return isinstance(value, tuple) and are_from(value, len(value), 0) and is_ascending(value)


def _keeps_colours(atom, tellers, colouring):
    told = {colour for teller in tellers for colour in colouring[teller]}
    for attribute in atom:
        for colour in colouring[attribute]:
            if colour not in told:
                return False
    return True


def check_colouring(query, keys, colouring):
    if not is_colouring(query, keys, colouring):
        raise BadColouring("not a colouring")


def _colours(colouring, attributes):
    return tuple(sorted({colour for attribute in attributes for colour in colouring[attribute]}))


def colours_at(query, keys, colouring, attributes):
    check_query(query)
    check_keys(query, keys)
    check_colouring(query, keys, colouring)
    check_attributes(query, attributes)
    return _colours(colouring, attributes)


def colour_store(query, keys, colouring, root):
    check_query(query)
    check_keys(query, keys)
    check_colouring(query, keys, colouring)
    check_root(root)
    held = [_colours(colouring, atom) for atom in query[1]]
    # All tables are counted ahead of the first one that is made.
    for colours in held:
        few_power(root, len(colours))
    return tuple([_colour_table(query[1][k], held[k], colouring, root) for k in range(len(held))])


def _colour_table(atom, colours, colouring, root):
    place_of = {colours[k]: k for k in range(len(colours))}
    places = [[place_of[colour] for colour in colouring[attribute]] for attribute in atom]
    rows = []
    for digits in all_rows([root] * len(colours)):
        rows.append(tuple([_number(digits, row, root) for row in places]))
    return tuple(sorted(rows))


def _number(digits, places, root):
    number = 0
    for place in places:
        number = number * root + digits[place]
    return number


def _check_simple(query, keys):
    check_query(query)
    check_keys(query, keys)
    if not all(len(tellers) == 1 for _, tellers in keys):
        raise NotSimple("a key has more than one teller")


def told_first(query, keys):
    _check_simple(query, keys)
    many = query[0]
    told = [_told(query, keys, (attribute,)) for attribute in range(many)]
    order = []
    while len(order) < many:
        left = [attribute for attribute in range(many) if attribute not in order]
        order.append(_next_told(told, order, left))
    return tuple(order)


def _next_told(told, order, left):
    """The least of the attributes left, all that it tells and that do not tell it being in order."""
    for attribute in left:
        below = [other for other in told[attribute] if attribute not in told[other]]
        if all(other in order for other in below):
            return attribute
    return None


def best_colouring(query, keys, exponents):
    order = told_first(query, keys)
    _, _, weights = least_chain(query, keys, order, exponents)
    chain = key_chain(query, keys, order)
    told = [_told(query, keys, (attribute,)) for attribute in range(query[0])]
    # The attributes of a step all tell each other, so whoever tells one tells the step:
    # its colours are those of all that tell it.
    colouring = [()] * query[0]
    first = 0
    for k in range(len(weights[0])):
        colours = tuple(range(first, first + weights[0][k]))
        first += weights[0][k]
        step = [attribute for attribute in chain[k + 1] if attribute not in chain[k]]
        colouring = [colouring[a] + colours if step[0] in told[a] else colouring[a] for a in range(query[0])]
    return tuple(colouring), weights[1]


def sum_store(root):
    check_root(root)
    if root * root > ROWS:
        raise TooMany(ROWS)
    query = (3, ((0,), (1,), (2,), (0, 1, 2)))
    keys = ((3, (0, 1)), (3, (0, 2)), (3, (1, 2)))
    single = tuple([(number,) for number in range(root)])
    sums = tuple([(x, y, (x + y) % root) for x in range(root) for y in range(root)])
    return query, keys, (single, single, single, sums)
