"""Lists met by leapfrogging, and papers of stretches that no number lacks."""

from coverjoin.checks import LIMIT, are_from, is_ascending, is_below
from coverjoin.errors import BadLists
from coverjoin.tries import place_from


def _is_list(value):
    return isinstance(value, tuple) and are_from(value, len(value), 0) and is_ascending(value)


def check_lists(lists):
    if not isinstance(lists, tuple) or len(lists) == 0:
        raise BadLists("not a tuple of one list or more")
    if not all(_is_list(numbers) for numbers in lists):
        raise BadLists("not an ascending tuple of numbers from 0 on")


def _first_from(numbers, least):
    """The first of the numbers that is not below least, None if there is none."""
    place = place_from(numbers, least)
    return numbers[place] if place < len(numbers) else None


def meet(lists):
    check_lists(lists)
    met = []
    bound = 0
    jumps = 0
    # How many of the last jumps, one behind another, came to the bound.
    alike = 0
    while True:
        number = _first_from(lists[jumps % len(lists)], bound)
        jumps += 1
        if number is None:
            return tuple(met), jumps
        alike = alike + 1 if number == bound else 1
        bound = number
        if alike == len(lists):
            met.append(number)
            bound = number + 1
            alike = 0


def _has(numbers, number):
    return _first_from(numbers, number) == number


def _all_have(lists, number):
    return all(_has(numbers, number) for numbers in lists)


def least_stretches(lists):
    check_lists(lists)
    stretches = []
    low = _first_lacked(lists, 0)
    while low is not None:
        # The number low is in some stretch of each paper, and no stretch with it reaches further.
        at, high = _furthest(lists, low)
        stretches.append((at, low, high))
        low = None if high is None else _first_lacked(lists, high)
    return stretches


def _first_lacked(lists, low):
    """The first number from low on that not all lists have."""
    while _all_have(lists, low):
        low += 1
    return low


def _furthest(lists, low):
    """The first list without low that has no number from low on for longest, and its next one."""
    best = None
    for at in range(len(lists)):
        high = _first_from(lists[at], low)
        if high is None:
            return at, None
        if high > low and (best is None or high > best[1]):
            best = (at, high)
    return best


def apart(lists):
    return tuple([low for _, low, _ in least_stretches(lists)])


def _is_stretch(lists, value):
    if not isinstance(value, tuple) or len(value) != 3:
        return False
    at, low, high = value
    if not is_below(at, len(lists)) or not _is_end(low):
        return False
    if high is not None and (not _is_end(high) or high <= low):
        return False
    first = _first_from(lists[at], low)
    return first is None or (high is not None and first >= high)


def _is_end(value):
    """Whether any value is an int from 0 to 10 ** 18, the last one no number any more."""
    return isinstance(value, int) and not isinstance(value, bool) and 0 <= value <= LIMIT


def is_paper(lists, value):
    check_lists(lists)
    if not isinstance(value, (list, tuple)):
        return False
    if not all(_is_stretch(lists, stretch) for stretch in value):
        return False
    # The first number that is not known to be held, nor to be in all lists.
    low = _first_lacked(lists, 0)
    for _, start, high in sorted(value, key=_low_of):
        if start > low:
            return False
        if high is None:
            return True
        low = _first_lacked(lists, max(low, high))
    return False


def _low_of(stretch):
    return stretch[1]


def is_apart(lists, value):
    check_lists(lists)
    if not isinstance(value, tuple) or not all(_is_end(number) for number in value):
        return False
    if not is_ascending(value) or any(_all_have(lists, number) for number in value):
        return False
    return all(_have_between(lists, value[k], value[k + 1]) for k in range(len(value) - 1))


def _have_between(lists, low, high):
    """Whether each list has a number from low to high."""
    for numbers in lists:
        first = _first_from(numbers, low)
        if first is None or first > high:
            return False
    return True
