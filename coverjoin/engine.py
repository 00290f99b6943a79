"""The engine: beginnings level by level, and its steps, asks and jumps."""

from coverjoin.answers import answers
from coverjoin.checks import LIMIT, check_store, is_from
from coverjoin.errors import BadLevel
from coverjoin.meets import meet
from coverjoin.tables import check_order, parts_at


class Lists:
    """The numbers that tables have at an attribute, told by what their rows have at others.

    What is known of an atom's row is its *part*: its numbers at the known ones of the
    atom's attributes, ascending. Each dict of lists is worked out once.
    """

    def __init__(self, query, store):
        self.atoms = query[1]
        self.tables = store
        self._told = {}

    def behind(self, at, known, attribute):
        """The dict from each part of the atom's rows at known to its list at the attribute,
        a dict that has the list's numbers, ascending, as its keys."""
        key = (at, known, attribute)
        if key not in self._told:
            atom = self.atoms[at]
            places = [atom.index(other) for other in known + (attribute,)]
            told = {}
            for row in sorted(parts_at(self.tables[at], places)):
                told.setdefault(row[:-1], {})[row[-1]] = True
            self._told[key] = told
        return self._told[key]

    def level(self, among, known, attribute):
        """For each of these atoms that has the attribute: its number, its dict of lists, and
        the place that a number at the attribute gets in its part."""
        found = []
        for at in among:
            if attribute in self.atoms[at]:
                before = tuple([other for other in self.atoms[at] if other in known])
                place = len([other for other in before if other < attribute])
                found.append((at, self.behind(at, before, attribute), place))
        return found

    def levels(self, among, sequence):
        return [self.level(among, sequence[:k], sequence[k]) for k in range(len(sequence))]

    def start(self):
        """The parts of all atoms when nothing is known."""
        return tuple([() for _ in self.atoms])

    def have_rows(self, among):
        return all(len(self.tables[at]) > 0 for at in among)


def lists_met(level, parts):
    return [told[parts[at]] for at, told, _ in level]


def shared_numbers(level, parts):
    """The numbers that all lists of the level have, ascending."""
    lists = lists_met(level, parts)
    return [number for number in min(lists, key=len) if all(number in other for other in lists)]


def parts_behind(level, parts, number):
    """The parts when the number is known at the level as well."""
    behind = list(parts)
    for at, _, place in level:
        behind[at] = parts[at][:place] + (number,) + parts[at][place:]
    return tuple(behind)


def thin_sequence(atoms, attributes):
    """The attributes in a sequence in which there is little to keep in mind: few of those that
    are taken are in an atom with one to come."""
    taken = []
    left = list(attributes)
    while len(left) > 0:
        chosen = min([(_kept_in_mind(atoms, taken + [other], attributes), other) for other in left])[1]
        taken.append(chosen)
        left.remove(chosen)
    return tuple(taken)


def _kept_in_mind(atoms, taken, attributes):
    waiting = [atom for atom in atoms if any(other in attributes and other not in taken for other in atom)]
    return len([other for other in taken if any(other in atom for atom in waiting)])


def ends_of(lists, among, sequence):
    """For each length of the sequence's beginnings the atoms whose last attribute it has, of
    those that they have in the sequence; the first list has those that have none in it."""
    ends = [[] for _ in range(len(sequence) + 1)]
    for at in among:
        ends[max([k + 1 for k in range(len(sequence)) if sequence[k] in lists.atoms[at]] + [0])].append(at)
    return ends


def without_parts(parts, ended):
    """The parts with None for the atoms that have ended, for nothing hangs on them any more."""
    left = list(parts)
    for at in ended:
        left[at] = None
    return tuple(left)


def ways_to(lists, among, sequence, measures, kept):
    """How many tuples of numbers for the attributes of the sequence agree with a row of each of
    these atoms: a dict from pairs (least, parts), which tell them apart, to that.

    The parts are those of the atoms that are kept, None for the others; least is the shortest
    list of those in measures, which has dicts of lists for some of the others.
    """
    levels = lists.levels(among, sequence)
    ends = ends_of(lists, among, sequence)
    states = {}
    if lists.have_rows(among):
        ended = [at for at in ends[0] if at not in kept]
        states[_ended(LIMIT, lists.start(), ended, measures)] = 1
    for k in range(len(sequence)):
        ended = [at for at in ends[k + 1] if at not in kept]
        passed = {}
        for (least, parts), ways in states.items():
            for number in shared_numbers(levels[k], parts):
                state = _ended(least, parts_behind(levels[k], parts, number), ended, measures)
                passed[state] = passed.get(state, 0) + ways
        states = passed
    return states


def _ended(least, parts, ended, measures):
    for at in ended:
        if at in measures:
            least = min(least, len(measures[at][parts[at]]))
    return least, without_parts(parts, ended)


def products_sum(query, tables):
    """The sum over all answers of the products of the numbers that their rows have, tables being dicts
    from rows to numbers, none of them 0."""
    lists = Lists(query, [list(table) for table in tables])
    among = list(range(len(tables)))
    sequence = thin_sequence(query[1], list(range(query[0])))
    levels = lists.levels(among, sequence)
    ends = ends_of(lists, among, sequence)
    states = {lists.start(): 1} if lists.have_rows(among) else {}
    for k in range(len(sequence)):
        passed = {}
        for parts, total in states.items():
            for number in shared_numbers(levels[k], parts):
                behind = parts_behind(levels[k], parts, number)
                product = total
                for at in ends[k + 1]:
                    product = product * tables[at][behind[at]]
                state = without_parts(behind, ends[k + 1])
                passed[state] = passed.get(state, 0) + product
        states = passed
    return sum(list(states.values()))


def steps_behind(lists, known, attribute):
    """The steps at the attribute, just those of known, in any sequence, being before it."""
    among = list(range(len(lists.atoms)))
    measures = {}
    for at, told, _ in lists.level(among, known, attribute):
        measures[at] = told
    states = ways_to(lists, among, thin_sequence(lists.atoms, known), measures, ())
    return sum([least * ways for (least, _), ways in states.items()])


def _met_by(query, store, order):
    """For each level the pairs of lists that are met there, and at how many of its beginnings."""
    lists = Lists(query, store)
    among = list(range(len(lists.atoms)))
    found = []
    for k in range(len(order)):
        level = lists.level(among, order[:k], order[k])
        kept = [at for at, _, _ in level]
        states = ways_to(lists, among, thin_sequence(lists.atoms, order[:k]), {}, kept)
        found.append([(lists_met(level, parts), ways) for (_, parts), ways in states.items()])
    return found


def leader_of(lists):
    """The place of the shortest list, of the first one among equally short ones."""
    lengths = [len(numbers) for numbers in lists]
    return lengths.index(min(lengths))


def asked_for(lists, leader, number):
    """The pair of how many lists behind the leader are asked for the number, and whether all have it."""
    asks = 0
    for k in range(len(lists)):
        if k != leader:
            asks += 1
            if number not in lists[k]:
                return asks, False
    return asks, True


def check_engine(query, store, order):
    check_store(query, store)
    check_order(query, order)


def check_level(query, level, low):
    if not is_from(level, low) or level > query[0]:
        raise BadLevel("not a number of a level")


def beginnings(query, store, order, level):
    check_engine(query, store, order)
    check_level(query, level, 0)
    if level == 0:
        return ((),) if all(len(table) > 0 for table in store) else ()
    cut_query, cut_store = cut(query, store, order, level)
    return answers(cut_query, cut_store)


def answers_by(query, store, order):
    check_engine(query, store, order)
    turned = beginnings(query, store, order, query[0])
    return tuple(parts_at(turned, [order.index(attribute) for attribute in range(query[0])]))


def steps_by(query, store, order):
    check_engine(query, store, order)
    lists = Lists(query, store)
    return tuple([steps_behind(lists, order[:k], order[k]) for k in range(len(order))])


def asks_by(query, store, order):
    check_engine(query, store, order)
    return tuple([sum([_asks(lists) * ways for lists, ways in level]) for level in _met_by(query, store, order)])


def _asks(lists):
    leader = leader_of(lists)
    return sum([asked_for(lists, leader, number)[0] for number in lists[leader]])


def jumps_by(query, store, order):
    check_engine(query, store, order)
    return tuple([sum([_jumps(lists) * ways for lists, ways in level]) for level in _met_by(query, store, order)])


def _jumps(lists):
    return meet(tuple([tuple(numbers) for numbers in lists]))[1]


def cut(query, store, order, level):
    check_engine(query, store, order)
    check_level(query, level, 1)
    names = {order[k]: k for k in range(level)}
    empty = not all(len(table) > 0 for table in store)
    atoms = []
    tables = []
    for k in range(len(store)):
        atom = query[1][k]
        named = sorted([(names[other], atom.index(other)) for other in atom if other in names])
        if len(named) > 0:
            atoms.append(tuple([name for name, _ in named]))
            rows = [] if empty else parts_at(store[k], [place for _, place in named])
            tables.append(tuple(sorted(set(rows))))
    return (level, tuple(atoms)), tuple(tables)
