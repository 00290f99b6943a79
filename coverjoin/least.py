"""Least papers: widest gaps, the fewest of them that leave out answers alone, and points that lie apart."""

from coverjoin.answers import is_answer
from coverjoin.boxes import LAST, LINE, check_index, has_number, is_gap_of
from coverjoin.checks import LIMIT, are_from, check_store
from coverjoin.errors import TooMany
from coverjoin.masks import bits_of, fewest_bits, most_apart

# The most boxes that are tried for widest gaps of a table.
TRIED = 2000

# The most unlike widest gaps of all tables together.
GAPS = 40

# The most cells that are gone through.
CELLS = 3000


def _ends(table, place):
    """The pair of the numbers at which stretches may begin and of those, or None, at which they may end,
    such that none can grow without meeting a new number of the rows."""
    numbers = sorted({row[place] for row in table})
    lows = [0] + [number + 1 for number in numbers if number < LAST]
    return lows, [number - 1 for number in numbers if number > 0] + [None]


def _stretches(ends):
    return [(low, high) for low in ends[0] for high in ends[1] if high is None or low <= high]


def _gaps_within(table, choices):
    """The parts at the atom's attributes of the gaps that these stretches make, as the keys of a dict."""
    found = [((), table)]
    for place in range(len(choices)):
        further = []
        for part, rows in found:
            for stretch in choices[place]:
                left = [row for row in rows if has_number(stretch, row[place])]
                further.append((part + (stretch,), left))
        found = further
    return {part: True for part, rows in found if len(rows) == 0}


def _wider(part, ends):
    """The parts that are one step wider than this one."""
    wider = []
    for place in range(len(part)):
        low, high = part[place]
        lows, highs = ends[place]
        if low > 0:
            wider.append((part, place, (lows[lows.index(low) - 1], high)))
        if high is not None:
            wider.append((part, place, (low, highs[highs.index(high) + 1])))
    return [part[:place] + (stretch,) + part[place + 1:] for part, place, stretch in wider]


def _sort_key(box):
    """What boxes are sorted by: None stands behind all numbers."""
    return tuple([(low, LIMIT if high is None else high) for low, high in box])


def _widest(query, store, index):
    atom, table = query[1][index], store[index]
    ends = [_ends(table, place) for place in range(len(atom))]
    choices = [_stretches(pair) for pair in ends]
    tried = 1
    for stretches in choices:
        tried = tried * len(stretches)
    if tried > TRIED:
        raise TooMany(TRIED)
    parts = _gaps_within(table, choices)
    boxes = []
    for part in parts:
        if not any(wider in parts for wider in _wider(part, ends)):
            box = [LINE] * query[0]
            for place in range(len(atom)):
                box[atom[place]] = part[place]
            boxes.append(tuple(box))
    return [box for _, box in sorted([(_sort_key(box), box) for box in boxes])]


def widest_gaps(query, store, index):
    check_store(query, store)
    check_index(store, index)
    return _widest(query, store, index)


def _all_widest(query, store):
    """The list of the pairs (index, gap) of all unlike widest gaps, each with its first table."""
    told = {}
    for index in range(len(store)):
        for box in _widest(query, store, index):
            told.setdefault(box, index)
    if len(told) > GAPS:
        raise TooMany(GAPS)
    return [(index, box) for box, index in told.items()]


def _starts(query, store):
    """For each attribute the ascending numbers at which cells begin."""
    starts = []
    for attribute in range(query[0]):
        numbers = {0: True}
        for at in range(len(store)):
            if attribute in query[1][at]:
                place = query[1][at].index(attribute)
                for row in store[at]:
                    numbers[row[place]] = True
                    numbers[min(row[place] + 1, LAST)] = True
        starts.append(sorted(numbers))
    return starts


def _masks(query, store, gaps):
    """The dict from masks, lots of gaps, to a point of each cell that just these gaps hold, but none for
    the cells of answers, which no gap holds."""
    starts = _starts(query, store)
    cells = 1
    for numbers in starts:
        cells = cells * len(numbers)
    if cells > CELLS:
        raise TooMany(CELLS)
    found = [((), (1 << len(gaps)) - 1)]
    for attribute in range(query[0]):
        held = [(number, _holding(gaps, attribute, number)) for number in starts[attribute]]
        found = [(point + (number,), mask & more) for point, mask in found for number, more in held]
    told = {}
    for point, mask in found:
        if mask > 0:
            told.setdefault(mask, point)
    return told


def _holding(gaps, attribute, number):
    """The mask of the gaps that have the number at the attribute."""
    mask = 0
    for k in range(len(gaps)):
        if has_number(gaps[k][1][attribute], number):
            mask = mask | (1 << k)
    return mask


def least_gaps(query, store):
    check_store(query, store)
    gaps = _all_widest(query, store)
    # Gaps that hold all points but the answers are those of a paper, and each gap is within a widest one.
    chosen = fewest_bits(list(_masks(query, store, gaps)))
    told = tuple([gaps[bit.bit_length() - 1] for bit in bits_of(chosen)])
    return len(told), told


def points_apart(query, store):
    check_store(query, store)
    masks = _masks(query, store, _all_widest(query, store))
    return tuple(sorted([masks[mask] for mask in most_apart(list(masks))]))


def lie_apart(query, store, value):
    check_store(query, store)
    if not isinstance(value, tuple) or not all(are_from(point, query[0], 0) for point in value):
        return False
    if any(is_answer(query, store, point) for point in value):
        return False
    for k in range(len(value)):
        if any(_is_held(query, store, value[j], value[k]) for j in range(k)):
            return False
    return True


def _is_held(query, store, one, other):
    """Whether some gap holds both points: then so does the least box that holds both."""
    box = []
    for k in range(len(one)):
        high = max(one[k], other[k])
        box.append((min(one[k], other[k]), None if high == LAST else high))
    return any(is_gap_of(query[1][at], store[at], box) for at in range(len(store)))
