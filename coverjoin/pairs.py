"""Plans that join two by two, and the tables of their nodes."""

from coverjoin.checks import are_below, check_store, check_query, is_below, is_pair
from coverjoin.engine import Lists, ends_of, parts_behind, shared_numbers, thin_sequence, ways_to, without_parts
from coverjoin.errors import BadNode, BadPlan, BadThrifty
from coverjoin.tables import parts_at


def is_plan(query, value):
    check_query(query)
    many = len(query[1])
    leaves = []
    waiting = [value]
    # A leaf that is there already ends it at once, so no value takes long, however much of it is the same.
    while len(waiting) > 0:
        plan = waiting.pop()
        if is_pair(plan):
            waiting.extend(plan)
        elif is_below(plan, many) and plan not in leaves:
            leaves.append(plan)
        else:
            return False
    return len(leaves) == many


def check_thrifty(thrifty):
    if not isinstance(thrifty, bool):
        raise BadThrifty("neither True nor False")


def table_attributes(query, among, thrifty):
    """The attributes of the whole table of these atoms, or of the thrifty one."""
    atoms = query[1]
    having = sorted({attribute for at in among for attribute in atoms[at]})
    if not thrifty:
        return tuple(having)
    outside = [atoms[at] for at in range(len(atoms)) if at not in among]
    return tuple([attribute for attribute in having if any(attribute in atom for atom in outside)])


class Rows:
    """The unlike rows that some atoms' table has at the attributes that are kept of a sequence.

    None stands for more than most rows, if this is a number.
    """

    def __init__(self, query, lists, among, kept, most):
        atoms = [query[1][at] for at in among]
        sequence = thin_sequence(atoms, sorted({attribute for atom in atoms for attribute in atom}))
        self._levels = lists.levels(among, sequence)
        self._ends = ends_of(lists, among, sequence)
        self._kept = [attribute in kept for attribute in sequence]
        self._most = most
        # The rows behind each state of a level, for many beginnings come to the same ones.
        self._told = [{} for _ in sequence]
        self._start = lists.start() if lists.have_rows(among) else None
        left = [attribute for attribute in sequence if attribute in kept]
        self._places = [left.index(attribute) for attribute in kept]

    def rows(self):
        if self._start is None:
            return []
        found = self._behind(0, self._start)
        return None if found is None else sorted(parts_at(found, self._places))

    def _behind(self, level, parts):
        if level == len(self._levels):
            return [()]
        if parts not in self._told[level]:
            self._told[level][parts] = self._joined(level, parts)
        return self._told[level][parts]

    def _joined(self, level, parts):
        # Some beginning comes to each state, so none has more rows behind it than the table.
        found = {}
        for number in shared_numbers(self._levels[level], parts):
            state = without_parts(parts_behind(self._levels[level], parts, number), self._ends[level + 1])
            further = self._behind(level + 1, state)
            if further is None:
                return None
            ahead = (number,) if self._kept[level] else ()
            for row in further:
                found[ahead + row] = True
            if self._most is not None and len(found) > self._most:
                return None
        return list(found)


def lots_of(query, among):
    """These atoms in lots, two with an attribute in common being in the same lot."""
    lots = []
    for at in among:
        linked = [lot for lot in lots if any(_meet(query, at, other) for other in lot)]
        lots = [lot for lot in lots if lot not in linked]
        lots.append(sorted([other for lot in linked for other in lot] + [at]))
    return lots


def _meet(query, one, other):
    return any(attribute in query[1][other] for attribute in query[1][one])


def table_size(query, lists, among, thrifty, most):
    """How many rows these atoms' table has; None may stand for more than most, if this is a number."""
    sizes = [_lot_size(query, lists, lot, table_attributes(query, among, thrifty), most)
             for lot in lots_of(query, among)]
    if 0 in sizes:
        return 0
    product = 1
    for size in sizes:
        if size is None:
            return None
        product = product * size
    return product


def _lot_size(query, lists, among, kept, most):
    having = table_attributes(query, among, False)
    left = [attribute for attribute in having if attribute in kept]
    if len(left) == len(having):
        sequence = thin_sequence([query[1][at] for at in among], having)
        return sum(list(ways_to(lists, among, sequence, {}, ()).values()))
    rows = Rows(query, lists, among, left, most).rows()
    return None if rows is None else len(rows)


def node_table(query, store, atoms, thrifty=False):
    check_store(query, store)
    if not are_below(atoms, len(query[1])) or len(atoms) == 0:
        raise BadNode("not an ascending tuple of one or more atoms")
    check_thrifty(thrifty)
    kept = table_attributes(query, atoms, thrifty)
    return kept, tuple(Rows(query, Lists(query, store), atoms, kept, None).rows())


def _nodes(plan):
    """The ascending tuples of the atoms of all nodes of a plan, and of its leaves, the whole plan's last."""
    if not is_pair(plan):
        return [(plan,)]
    left, right = _nodes(plan[0]), _nodes(plan[1])
    return left + right + [tuple(sorted(left[-1] + right[-1]))]


def middles(query, store, plan, thrifty=False):
    check_store(query, store)
    if not is_plan(query, plan):
        raise BadPlan("not a plan of the query")
    check_thrifty(thrifty)
    lists = Lists(query, store)
    nodes = [among for among in _nodes(plan)[:-1] if len(among) > 1]
    return tuple([(among, table_size(query, lists, among, thrifty, None)) for among in nodes])


def greatest_middle(query, store, plan, thrifty=False):
    return max([size for _, size in middles(query, store, plan, thrifty)] + [0])
