"""What the tests share: samples made by fixed rules, values of every kind, and plain looking through."""

from itertools import permutations, product

from coverjoin.errors import BadOrder, BadQuery, BadStore, BadThrifty, BadTree, JoinError
from coverjoin.tries import Trie

TRIANGLE = (3, ((0, 1), (0, 2), (1, 2)))
TRIANGLE_STORE = (((0, 0), (0, 1), (1, 0)), ((0, 0), (0, 1), (1, 0)), ((0, 0), (1, 0)))
PATH = (3, ((0, 1), (1, 2)))
STAR = (4, ((0, 3), (1, 3), (2, 3)))
RING = (4, ((0, 1), (1, 2), (2, 3), (0, 3)))
PARTS = (4, ((0, 1), (2,), (2, 3)))
EQUAL = (2, ((0, 1), (0, 1), (1,)))
ONE = (1, ((0,),))
WIDE = (8, tuple(tuple(a for a in range(8) if a != k) for k in range(8)))
LINES = (7, ((0, 1, 2), (0, 3, 4), (0, 5, 6), (1, 3, 5), (1, 4, 6), (2, 3, 6), (2, 4, 5)))
NAMED = (TRIANGLE, PATH, STAR, RING, PARTS, EQUAL, ONE, WIDE, LINES)

LAST = 10 ** 18 - 1


class Dice:
    """Numbers by a fixed rule, the same ones in each run."""

    def __init__(self, seed):
        self.state = seed * 2654435761 + 12345

    def below(self, many):
        self.state = (self.state * 6364136223846793005 + 1442695040888963407) % 2 ** 64
        return (self.state >> 33) % many

    def one_of(self, items):
        return items[self.below(len(items))]


def subsets(items):
    """All ascending tuples of some of the items, the empty one first."""
    found = [()]
    for item in items:
        found = found + [part + (item,) for part in found]
    return sorted(found)


def all_queries(many, most):
    """All queries of so many attributes and at most so many atoms."""
    atoms = [atom for atom in subsets(range(many)) if atom]
    for length in range(1, most + 1):
        for chosen in product(atoms, repeat=length):
            if {a for atom in chosen for a in atom} == set(range(many)):
                yield many, chosen


def small_queries():
    for many, most in ((1, 3), (2, 3), (3, 2)):
        yield from all_queries(many, most)


def some_query(dice, most_many, most_atoms):
    while True:
        many = 1 + dice.below(most_many)
        atoms = []
        for _ in range(1 + dice.below(most_atoms)):
            atoms.append(tuple(a for a in range(many) if dice.below(2)))
        if all(atoms) and {a for atom in atoms for a in atom} == set(range(many)):
            return many, tuple(atoms)


def some_queries(many, most_many, most_atoms, seed=1):
    dice = Dice(seed)
    return [some_query(dice, most_many, most_atoms) for _ in range(many)]


def some_store(dice, query, limit, rows):
    """A store of numbers below limit, with at most so many rows in each table."""
    tables = []
    for atom in query[1]:
        table = {tuple(dice.below(limit) for _ in atom) for _ in range(dice.below(rows + 1))}
        tables.append(tuple(sorted(table)))
    return tuple(tables)


def all_stores(query, limit):
    """All stores of numbers below limit."""
    tables = [subsets(product(range(limit), repeat=len(atom))) for atom in query[1]]
    return product(*tables)


def part(row, places):
    return tuple(row[place] for place in places)


def plain_answers(query, store):
    """All answers, by looking through all tuples of the numbers that are there."""
    numbers = sorted({n for table in store for row in table for n in row})
    tables = [set(table) for table in store]
    found = []
    for row in product(numbers, repeat=query[0]):
        if all(part(row, query[1][k]) in tables[k] for k in range(len(tables))):
            found.append(row)
    return tuple(found)


def powers_of(counts, exponents):
    result = 1
    for count, exponent in zip(counts, exponents, strict=True):
        result *= count ** exponent
    return result


def comes_to(counts, shares, number):
    """Whether number is at most what counts come to by shares, by plain multiplying."""
    return number ** shares[1] <= powers_of(counts, shares[0])


def candidates(query, most):
    """All shares with numerators up to the denominator, which is at most this."""
    for denominator in range(1, most + 1):
        for numerators in product(range(denominator + 1), repeat=len(query[1])):
            yield numerators, denominator


# Values of every kind, and what is told of them plainly.

def a_trie():
    return Trie(ONE, (((0,),),), (0,), 0)


def every_kind():
    return [None, True, False, 0, 1, -1, 7, LAST, LAST + 1, -LAST - 1, "", "a", "0", (), (0,), (1,), (0, 1), [], [0],
            [()], {}, {0: 0}, ((),), ((0,),), ((0, 1),), (True,), (False, True), ("a",), (None,), ([],), (0, [1]),
            JoinError("text"), a_trie(), [[[[[]]]]], ((((0,),),),), {"a": [0]}]


def spoilt(value):
    """Values that are unlike this one at one place, at any depth."""
    if isinstance(value, tuple):
        yield from (list(value), value[:-1], value + (0,), value + ((),), value[::-1], {}, None, "text", 0, True)
        if value:
            yield value + value[-1:]
            yield value[1:]
            yield value[:1] + value
            yield dict(enumerate(value))
        for k in range(len(value)):
            for other in spoilt(value[k]):
                yield value[:k] + (other,) + value[k + 1:]
    elif isinstance(value, list):
        yield from (tuple(value), value[:-1], value + [0], {}, None)
        for k in range(len(value)):
            for other in spoilt(value[k]):
                yield value[:k] + [other] + value[k + 1:]
    elif isinstance(value, int):
        yield from (bool(value), not value, None, str(value), [value], (value,), value + 1, value - 1, -1 - value, -1,
                    LAST, LAST + 1, -LAST, -LAST - 1, {value: value}, 0, 999, 1000, -999, -1000)
    elif value is None:
        yield from (0, 1, True, False, "None", (), [])


def wrong_values(value):
    return list(spoilt(value)) + every_kind()


def number(value):
    return type(value) is int and -10 ** 18 < value < 10 ** 18


def numbers(value, many, low, high=LAST):
    """Whether it is a tuple of so many numbers from low to high."""
    if type(value) is not tuple or len(value) != many:
        return False
    return all(number(item) and low <= item <= high for item in value)


def rising(value, low, high):
    """Whether it is an ascending tuple of numbers from low to high."""
    if type(value) is not tuple or not numbers(value, len(value), low, high):
        return False
    return list(value) == sorted(set(value))


def good_query(value):
    if type(value) is not tuple or len(value) != 2 or not number(value[0]):
        return False
    many, atoms = value
    if many not in range(1, 9) or type(atoms) is not tuple or len(atoms) not in range(1, 9):
        return False
    if not all(rising(atom, 0, many - 1) and atom for atom in atoms):
        return False
    return {a for atom in atoms for a in atom} == set(range(many))


def good_store(query, value):
    if type(value) is not tuple or len(value) != len(query[1]):
        return False
    for atom, table in zip(query[1], value):
        if type(table) is not tuple or not all(numbers(row, len(atom), 0) for row in table):
            return False
        if list(table) != sorted(set(table)):
            return False
    return True


def good_wanted(query, value):
    return value is None or rising(value, 0, query[0] - 1)


def good_order(query, value):
    return numbers(value, query[0], 0) and sorted(value) == list(range(query[0]))


def good_shares(query, value):
    if type(value) is not tuple or len(value) != 2:
        return False
    return numbers(value[0], len(query[1]), 0) and number(value[1]) and value[1] >= 1


def good_cover(query, value, wanted=None):
    if not good_shares(query, value):
        return False
    for a in range(query[0]) if wanted is None else wanted:
        if sum(value[0][k] for k, atom in enumerate(query[1]) if a in atom) < value[1]:
            return False
    return True


def good_keys(query, value):
    if type(value) is not tuple or len(value) > 20:
        return False
    for key in value:
        if type(key) is not tuple or len(key) != 2 or not number(key[0]) or key[0] not in range(len(query[1])):
            return False
        if not rising(key[1], 0, query[0] - 1) or not key[1] or not set(key[1]) <= set(query[1][key[0]]):
            return False
    return list(value) == sorted(set(value))


# Guards: for places among the arguments, from the left, the error for what is wrong there,
# and a judge that is given the arguments up to this one.

QUERY = (BadQuery, lambda query: good_query(query))
STORE = (BadStore, lambda query, store: good_store(query, store))


def check_guards(test, function, good, guards):
    """That each wrong value for a parameter raises its error, whatever is wrong behind it."""
    for place, (error, judge) in enumerate(guards):
        if error is None:
            continue
        behind = [k for k in range(place + 1, len(good)) if k < len(guards)]
        for bad in wrong_values(good[place]):
            if judge(*good[:place], bad):
                continue
            tries = [good[:place] + (bad,) + good[place + 1:]]
            for wrong in ("wrong", None, True):
                tries.append(good[:place] + (bad,) + tuple(wrong if k in behind else good[k]
                                                           for k in range(place + 1, len(good))))
            for arguments in tries:
                with test.subTest(function=function.__name__, place=place, bad=bad):
                    with test.assertRaises(error) as caught:
                        function(*arguments)
                    test.assertIs(type(caught.exception), error)


def check_judge(test, judge, plain, samples):
    """That a judge tells, of samples, of what is unlike them at one place, and of values of every
    kind, what is told plainly, and True or False itself."""
    for sample in samples:
        for value in [sample] + wrong_values(sample):
            with test.subTest(value=value):
                test.assertIs(judge(value), bool(plain(value)))


def raised(function, *arguments):
    """The error that a call raises, None if it raises none of the package's."""
    try:
        function(*arguments)
    except JoinError as error:
        return error
    return None


# The engine, by plain going through.

def agrees(atom, row, order, beginning):
    """Whether a row has the beginning's numbers at those of its atom's attributes that are among the first of the order."""
    return all(row[atom.index(a)] == n for a, n in zip(order, beginning) if a in atom)


def plain_beginnings(query, store, order, level):
    numbers = sorted({n for table in store for row in table for n in row})
    found = []
    for beginning in product(numbers, repeat=level):
        if all(any(agrees(atom, row, order, beginning) for row in table) for atom, table in zip(query[1], store)):
            found.append(beginning)
    return tuple(found)


def plain_lists(query, store, order, beginning):
    """The lists of the atoms with the attribute of the beginning's level, in their sequence."""
    attribute = order[len(beginning)]
    lists = []
    for atom, table in zip(query[1], store):
        if attribute in atom:
            rows = [row for row in table if agrees(atom, row, order, beginning)]
            lists.append(tuple(sorted({row[atom.index(attribute)] for row in rows})))
    return tuple(lists)


def plain_leader(lists):
    return min(range(len(lists)), key=lambda k: (len(lists[k]), k))


def plain_asks(lists, leader, number):
    """How many lists are asked for a number, and whether all have it."""
    asks = 0
    for k, other in enumerate(lists):
        if k != leader:
            asks += 1
            if number not in other:
                return asks, False
    return asks, True


def leap(lists):
    """The numbers met, and the jumps, told one by one."""
    met, jumps, bound, run = [], 0, 0, 0
    while True:
        left = [n for n in lists[jumps % len(lists)] if n >= bound]
        jumps += 1
        if not left:
            return tuple(met), jumps
        run = run + 1 if left[0] == bound and run else 1
        bound = left[0]
        if run == len(lists):
            met.append(bound)
            bound, run = bound + 1, 0


def plain_engine(query, store, order):
    """The steps, asks and jumps of each level."""
    many = query[0]
    steps, asks, jumps = [0] * many, [0] * many, [0] * many
    for level in range(many):
        for beginning in plain_beginnings(query, store, order, level):
            lists = plain_lists(query, store, order, beginning)
            leader = plain_leader(lists)
            steps[level] += len(lists[leader])
            asks[level] += sum(plain_asks(lists, leader, n)[0] for n in lists[leader])
            jumps[level] += leap(lists)[1]
    return tuple(steps), tuple(asks), tuple(jumps)


def turned(answer, order):
    return tuple(answer[a] for a in order)


def live_store(query, store):
    """The store of the rows that are parts of answers, by plain looking through."""
    found = plain_answers(query, store)
    return tuple(tuple(sorted({part(row, atom) for row in found})) for atom in query[1])


def samples(many, most_many, most_atoms, limit, rows, seed):
    """Pairs of a query and a store, by a fixed rule, some with tables without rows."""
    dice = Dice(seed)
    for query in some_queries(many, most_many, most_atoms, seed + 1):
        yield query, some_store(dice, query, limit, rows)
    yield TRIANGLE, TRIANGLE_STORE


def an_order(dice, query):
    left = list(range(query[0]))
    order = []
    while left:
        order.append(left.pop(dice.below(len(left))))
    return tuple(order)


ORDER = (BadOrder, lambda query, store, order: good_order(query, order))


# Plans two by two, by plain joining.

def plain_table(query, store, atoms, thrifty=False):
    """The attributes and rows of the whole or the thrifty table of atoms, joined row by row."""
    rows = [{}]
    for at in atoms:
        further = []
        for known in rows:
            for row in store[at]:
                told = dict(zip(query[1][at], row))
                if all(known.get(a, n) == n for a, n in told.items()):
                    further.append({**known, **told})
        rows = further
    having = sorted({a for at in atoms for a in query[1][at]})
    outside = {a for at, atom in enumerate(query[1]) if at not in atoms for a in atom}
    kept = tuple(a for a in having if a in outside or not thrifty)
    return kept, tuple(sorted({tuple(row[a] for a in kept) for row in rows}))


def plain_nodes(plan):
    """The tuples of atoms of a plan's nodes and leaves, the whole plan's last."""
    if type(plan) is not tuple:
        return [(plan,)]
    left, right = plain_nodes(plan[0]), plain_nodes(plan[1])
    return left + right + [tuple(sorted(left[-1] + right[-1]))]


def plans_of(atoms):
    """All plans of some atoms, but for the sides of their nodes: the least atom stands on the left."""
    if len(atoms) == 1:
        yield atoms[0]
    for bits in range(2 ** (len(atoms) - 1) - 1):
        left = [atoms[0]] + [at for k, at in enumerate(atoms[1:]) if bits >> k & 1]
        right = [at for at in atoms if at not in left]
        for one in plans_of(left):
            for other in plans_of(right):
                yield one, other


def good_plan(query, value):
    leaves = []

    def is_node(plan, deep):
        if type(plan) is tuple:
            return len(plan) == 2 and deep < 9 and is_node(plan[0], deep + 1) and is_node(plan[1], deep + 1)
        leaves.append(plan)
        return number(plan)

    return is_node(value, 0) and sorted(leaves) == list(range(len(query[1])))


THRIFTY = (BadThrifty, lambda *arguments: arguments[-1] is True or arguments[-1] is False)


# Acyclic queries, by the document's reading.

def has_ears(query):
    """Whether the query comes to one atom by taking out ears, one by one: atoms of which another one has all but
    what no other has. So exactly acyclic queries do."""
    atoms = [set(atom) for atom in query[1]]
    changed = True
    while changed:
        changed = False
        for k, atom in enumerate(atoms):
            others = atoms[:k] + atoms[k + 1:]
            lone = {a for a in atom if not any(a in other for other in others)}
            if any(atom - lone <= other for other in others):
                atoms.pop(k)
                changed = True
                break
    return len(atoms) <= 1


def good_layout_of(many, value):
    if not numbers(value, many, 0, many - 1):
        return False
    if sum(up == at for at, up in enumerate(value)) != 1:
        return False
    for at in range(many):
        for _ in range(many):
            at = value[at]
        if value[at] != at:
            return False
    return True


def good_tree_of(atoms, value):
    """Whether any value is a layout in which each attribute has one top."""
    if not good_layout_of(len(atoms), value):
        return False
    for attribute in {a for atom in atoms for a in atom}:
        tops = [at for at, atom in enumerate(atoms) if attribute in atom and
                (value[at] == at or attribute not in atoms[value[at]])]
        if len(tops) != 1:
            return False
    return True


def good_layout(query, value):
    return good_layout_of(len(query[1]), value)


def good_tree(query, value):
    return good_tree_of(query[1], value)


def neighbours(query, one, other):
    return any(one in atom and other in atom for atom in query[1])


def good_knot(query, value):
    if type(value) is not tuple or len(value) != 2 or type(value[0]) is not str or type(value[1]) is not tuple:
        return False
    word, told = value
    if not numbers(told, len(told), 0, query[0] - 1) or len(set(told)) < len(told):
        return False
    if word == "lot":
        held = [set(told) <= set(atom) for atom in query[1]]
        rest = [any(set(told) - {a} <= set(atom) for atom in query[1]) for a in told]
        return len(told) >= 3 and list(told) == sorted(told) and not any(held) and all(rest)
    if word != "ring" or len(told) < 4 or told[0] != min(told) or told[1] >= told[-1]:
        return False
    beside = [(k, k + 1) for k in range(len(told) - 1)] + [(0, len(told) - 1)]
    return all(neighbours(query, told[j], told[k]) == ((j, k) in beside) for k in range(len(told)) for j in range(k))


def meet(query, one, row, other, there):
    """Whether rows of two tables meet."""
    left, right = dict(zip(query[1][one], row)), dict(zip(query[1][other], there))
    return all(right.get(a, n) == n for a, n in left.items())


def plain_semijoin(query, store, one, other):
    return tuple(row for row in store[one] if any(meet(query, one, row, other, there) for there in store[other]))


def plain_run(query, store, program):
    tables, looked = list(store), []
    for one, other in program:
        looked.append(len(tables[one]) + len(tables[other]))
        tables[one] = plain_semijoin(query, tables, one, other)
    return tuple(tables), tuple(looked)


def plain_agree(query, store):
    many = range(len(store))
    return all(plain_semijoin(query, store, one, other) == store[one] for one in many for other in many if one != other)


def acyclic_queries(many, most_many, most_atoms, seed):
    """So many acyclic queries, by a fixed rule, and some by hand."""
    dice = Dice(seed)
    found = [PATH, STAR, PARTS, EQUAL, ONE, (3, ((0, 1), (0, 2), (1, 2), (0, 1, 2))), (3, ((0,), (1,), (2,)))]
    while len(found) < many + 7:
        query = some_query(dice, most_many, most_atoms)
        if has_ears(query):
            found.append(query)
    return found


def acyclic_samples(many, most_many, most_atoms, limit, rows, seed):
    dice = Dice(seed + 1)
    for query in acyclic_queries(many, most_many, most_atoms, seed):
        yield query, some_store(dice, query, limit, rows)


def trees_of(query):
    for value in product(range(len(query[1])), repeat=len(query[1])):
        if good_tree(query, value):
            yield value


COVERED = (3, ((0, 1), (0, 2), (1, 2), (0, 1, 2)))


def good_program(query, value):
    if type(value) is not tuple or len(value) > 14:
        return False
    many = len(query[1])
    return all(numbers(item, 2, 0, many - 1) and item[0] != item[1] for item in value)


def sequences(items):
    """All tuples of unlike items, the empty one among them."""
    for length in range(len(items) + 1):
        yield from permutations(items, length)


def plain_trio(query, order):
    """The first trio, as point 66 tells it, by going through all of them."""
    places = [(k, i, j) for i in range(len(order)) for j in range(i + 1, len(order)) for k in range(j + 1, len(order))]
    for k, i, j in sorted(places):
        one, other, later = order[i], order[j], order[k]
        if not neighbours(query, one, other) and neighbours(query, one, later) and neighbours(query, other, later):
            return one, other, later
    return None


def good_sequence(query, value):
    """Whether any value is a tuple of unlike attributes."""
    return type(value) is tuple and numbers(value, len(value), 0, query[0] - 1) and len(set(value)) == len(value)


def smooth_orders(query, attributes):
    return [order for order in permutations(attributes) if plain_trio(query, order) is None]


def good_box(many, value):
    """Whether any value is a box for so many attributes."""
    if type(value) is not tuple or len(value) != many:
        return False
    for stretch in value:
        if type(stretch) is not tuple or len(stretch) != 2 or not number(stretch[0]) or stretch[0] < 0:
            return False
        low, high = stretch
        if high is not None and not (number(high) and low <= high < LAST):
            return False
    return True


def has(stretch, n):
    """Whether a stretch has a number."""
    return stretch[0] <= n and (stretch[1] is None or n <= stretch[1])


def holds_plainly(box, point):
    return all(has(stretch, n) for stretch, n in zip(box, point, strict=True))


def plain_unit(point):
    return tuple((n, None if n == LAST else n) for n in point)


def plain_resolvent(one, other, attribute):
    """The resolvent as point 80 tells it, None if there is none; by the ends of the stretches."""
    ends = [[(low, LAST if high is None else high) for low, high in box] for box in (one, other)]
    told = []
    for k, ((low, high), (least, most)) in enumerate(zip(*ends)):
        beside = k == attribute and (high + 1 == least or most + 1 == low)
        if max(low, least) > min(high, most) and not beside:
            return None
        told.append((min(low, least), max(high, most)) if k == attribute else (max(low, least), min(high, most)))
    return tuple((low, None if high == LAST else high) for low, high in told)


def plain_shown(boxes, points, lines, join=plain_resolvent):
    """The box that the last of lines shows, None if they are no list of lines."""
    shown = []
    for line in lines:
        if type(line) is not tuple or not line or type(line[0]) is not str:
            return None
        word, *places = line
        if not all(number(place) and place >= 0 for place in places):
            return None
        if word == "box" and len(places) == 1 and places[0] < len(boxes):
            shown.append(boxes[places[0]])
        elif word == "point" and len(places) == 1 and places[0] < len(points):
            shown.append(plain_unit(points[places[0]]))
        elif word == "join" and len(places) == 3 and max(places[:2]) < len(shown) and places[2] < len(shown[0]):
            shown.append(join(shown[places[0]], shown[places[1]], places[2]))
        else:
            return None
        if shown[-1] is None:
            return None
    return shown[-1] if shown else None


def good_cover_of(many, boxes, points, value):
    """Whether any value is a list of lines that shows the whole."""
    return type(value) in (list, tuple) and plain_shown(boxes, points, value) == ((0, None),) * many


def gap_plainly(query, store, index, box):
    return not any(all(has(box[a], n) for a, n in zip(query[1][index], row)) for row in store[index])


def answer_plainly(query, store, point):
    return all(part(point, atom) in table for atom, table in zip(query[1], store))


def good_paper(query, store, value):
    """Whether any value is a paper, as point 83 tells it."""
    if type(value) is not tuple or len(value) != 3 or not all(type(item) is tuple for item in value):
        return False
    points, gaps, lines = value
    if not all(numbers(point, query[0], 0) and answer_plainly(query, store, point) for point in points):
        return False
    if list(points) != sorted(set(points)):
        return False
    for gap in gaps:
        if type(gap) is not tuple or len(gap) != 2 or not number(gap[0]) or gap[0] not in range(len(store)):
            return False
        if not good_box(query[0], gap[1]) or not gap_plainly(query, store, *gap):
            return False
    return good_cover_of(query[0], [box for _, box in gaps], points, lines)


# Hierarchical queries, by the document's reading.

def lots_of_attributes(query):
    return [{at for at, atom in enumerate(query[1]) if a in atom} for a in range(query[0])]


def is_hierarchical(query):
    lots = lots_of_attributes(query)
    return all(one <= other or other <= one or not one & other for one in lots for other in lots)


def plain_told_forest(query):
    """The told forest of a hierarchical query, as point 90 tells it."""
    lots = lots_of_attributes(query)
    forest = []
    for x in range(query[0]):
        above = [a for a in range(query[0]) if lots[x] <= lots[a] and (len(lots[a]) > len(lots[x]) or
                                                                      (len(lots[a]) == len(lots[x]) and a < x))]
        forest.append(min(above, key=lambda a: (len(lots[a]), -a), default=None))
    return tuple(forest)


def plain_way(forest, attribute):
    way = []
    while attribute is not None and len(way) <= len(forest):
        way.insert(0, attribute)
        attribute = forest[attribute]
    return tuple(way)


def good_forest(query, value):
    if type(value) is not tuple or len(value) != query[0]:
        return False
    for a, up in enumerate(value):
        if up is not None and not (number(up) and up in range(query[0])):
            return False
    if any(len(plain_way(value, a)) > query[0] for a in range(query[0])):
        return False
    return all(any(set(plain_way(value, a)) == set(atom) for a in atom) for atom in query[1])


def all_pairs_of(query):
    """All tuples that show that the query is not hierarchical, ascending."""
    atoms = query[1]
    for one in range(query[0]):
        for other in range(one + 1, query[0]):
            for told in product(range(len(atoms)), repeat=3):
                if [(one in atoms[at], other in atoms[at]) for at in told] == [(True, False), (True, True), (False, True)]:
                    yield (one, other) + told


def plain_sequence(query):
    forest = plain_told_forest(query)
    order = []

    def go(above):
        for a in range(query[0]):
            if forest[a] == above:
                order.append(a)
                go(a)
    go(None)
    return tuple(order)


def hierarchical_queries(many, most_many, most_atoms, seed):
    """So many hierarchical queries by a fixed rule, and some by hand."""
    dice = Dice(seed)
    found = [ONE, (2, ((0,), (0, 1))), (2, ((0,), (1,))), (4, ((0, 1), (0, 1, 2), (0, 3), (0,))), (3, ((0, 1, 2), (0, 1, 2))),
             (4, ((1, 2), (1, 3), (0,), (1,))), (1, ((0,), (0,), (0,)))]
    while len(found) < many + 7:
        query = some_query(dice, most_many, most_atoms)
        if is_hierarchical(query):
            found.append(query)
    return found


NOT_HIERARCHICAL = (2, ((0,), (0, 1), (1,)))


# Trees of bags.

def good_bag(query, value):
    return rising(value, 0, query[0] - 1) and len(value) > 0


def good_bag_tree(query, value):
    """Whether any value is a tree of bags, as point 100 tells it."""
    if type(value) is not tuple or len(value) != 2 or type(value[0]) is not tuple or type(value[1]) is not tuple:
        return False
    bags, parents = value
    if len(bags) not in range(1, 9) or len(parents) != len(bags) or not all(good_bag(query, bag) for bag in bags):
        return False
    for k, up in enumerate(parents):
        if up is not None and not (number(up) and up in range(len(bags)) and up != k):
            return False
    if sum(up is None for up in parents) != 1:
        return False
    for k in range(len(bags)):
        for _ in bags:
            k = k if parents[k] is None else parents[k]
        if parents[k] is not None:
            return False
    if not all(any(set(atom) <= set(bag) for bag in bags) for atom in query[1]):
        return False
    for a in range(query[0]):
        tops = [k for k, bag in enumerate(bags) if a in bag and (parents[k] is None or a not in bags[parents[k]])]
        if len(tops) != 1:
            return False
    return True


def plain_bag(query, gone, attribute):
    """The bag of an attribute, by going on from what is reached until there is nothing new."""
    reached, bag = {attribute}, {attribute}
    while True:
        beside = {a for atom in query[1] if reached & set(atom) for a in atom}
        bag |= beside - set(gone)
        more = reached | (beside & set(gone))
        if more == reached:
            return tuple(sorted(bag))
        reached = more


def plain_bags(query, order):
    return tuple(plain_bag(query, order[:k], a) for k, a in enumerate(order))


def all_bag_trees(query, most):
    """All trees of at most so many bags."""
    bags = [bag for bag in subsets(range(query[0])) if bag]
    for many in range(1, most + 1):
        for chosen in product(bags, repeat=many):
            for parents in product([None, *range(many)], repeat=many):
                if good_bag_tree(query, (chosen, parents)):
                    yield chosen, parents


def order_tree(query, order):
    """The tree of the bags of an order, by the document's reading."""
    bags = plain_bags(query, order)
    parents = []
    for k, bag in enumerate(bags):
        others = [order.index(a) for a in bag if a != order[k]]
        parents.append(min(others) if others else len(bags) - 1)
    return bags, tuple(parents[:-1] + [None])


BAG_TREE = (BadTree, lambda *told: good_bag_tree(told[0], told[-1]))
