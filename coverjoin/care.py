"""The rules of care: what joining, reducing, judging and keeping counts come to without each of them."""

from coverjoin.acyclic import check_tree, is_layout, is_tree
from coverjoin.checks import are_from, check_query, check_store, is_below, is_pair, is_query, is_store
from coverjoin.engine import products_sum
from coverjoin.errors import BadChanges, BadRule, BadTree
from coverjoin.papers import is_paper_of
from coverjoin.reduce import program_along, run
from coverjoin.wished import wished_answers

# The rules of each procedure.
JOINING = ("all", "known", "part")
REDUCING = ("tree", "up", "down")
JUDGING = ("answer", "gap", "touch", "meet", "whole")
KEEPING = ("once", "there")

# The most changes.
CHANGES = 300


def care_rules():
    return JOINING + REDUCING + JUDGING + KEEPING


def _check_without(without, rules):
    if without is not None and without not in rules:
        raise BadRule("not a rule of this procedure")


def _check_rule(rule):
    if rule not in care_rules():
        raise BadRule("not a rule of care")


def joined_by(query, store, without):
    check_store(query, store)
    _check_without(without, JOINING)
    tuples = [()]
    for lists in _all_lists(query, store, without):
        tuples = [known + (number,) for known in tuples for number in _following(lists, known)]
    return tuple(tuples)


def _many_joined(query, store, without):
    """How many tuples joined_by tells, without going through those that are alike for what follows."""
    levels = _all_lists(query, store, without)
    states = {(): 1}
    for k in range(len(levels)):
        later = [other for lists in levels[k + 1:] for looked, _ in lists for other in looked]
        passed = {}
        for known, times in states.items():
            for number in _following(levels[k], known):
                further = known + (number,)
                state = tuple([further[other] if other in later else None for other in range(k + 1)])
                passed[state] = passed.get(state, 0) + times
        states = passed
    return sum(list(states.values()))


def _all_lists(query, store, without):
    """For each attribute what is looked at of the atoms that are asked for it."""
    levels = []
    for attribute in range(query[0]):
        asked = [at for at in range(len(store)) if attribute in query[1][at]]
        if without == "all":
            asked = asked[:1]
        levels.append([_behind_looked(query[1][at], store[at], attribute, without) for at in asked])
    return levels


def _behind_looked(atom, table, attribute, without):
    """The attributes of an atom that are looked at, and the dict from the rows' numbers there to a dict
    with the numbers that rows have at the attribute with them."""
    looked = [other for other in atom if other < attribute]
    if without == "known":
        looked = []
    if without == "part":
        looked = looked[-1:]
    places = [atom.index(other) for other in looked]
    told = {}
    for row in table:
        part = tuple([row[place] for place in places])
        told.setdefault(part, {})[row[atom.index(attribute)]] = True
    return looked, told


def _following(lists, known):
    """The ascending numbers that follow known ones in all lists."""
    found = [told.get(tuple([known[other] for other in looked]), {}) for looked, told in lists]
    return sorted([number for number in found[0] if all(number in numbers for numbers in found)])


def kept_rows(query, store, without, layout):
    check_store(query, store)
    _check_without(without, REDUCING)
    if without != "tree":
        check_tree(query, layout)
    elif not is_layout(query, layout):
        raise BadTree("not a layout of the query")
    program = program_along(layout)
    half = len(program) // 2
    if without == "up":
        program = program[half:]
    if without == "down":
        program = program[:half]
    return run(query, store, program)[0]


def useful_rows(query, store):
    check_store(query, store)
    return tuple([wished_answers(query, store, atom) for atom in query[1]])


def taken_by(query, store, value, without):
    check_store(query, store)
    _check_without(without, JUDGING)
    return is_paper_of(query, store, value, without)


def _is_change(query, value):
    if not isinstance(value, tuple) or len(value) != 3 or value[0] not in ("put", "take"):
        return False
    return is_below(value[1], len(query[1])) and are_from(value[2], len(query[1][value[1]]), 0)


def _are_changes(query, value):
    if not isinstance(value, (list, tuple)) or len(value) > CHANGES:
        return False
    return all(_is_change(query, change) for change in value)


def _times_behind(word, times, without):
    """How often a row is there behind a change, if it was there so many times."""
    if word == "put":
        # Less than 0 times, which only taking without care leads to, is not enough to be there.
        return times + 1 if times <= 0 or without == "once" else times
    return times - 1 if times != 0 or without == "there" else times


def kept_count(query, changes, without):
    check_query(query)
    if not _are_changes(query, changes):
        raise BadChanges("not a list of changes")
    _check_without(without, KEEPING)
    tables = [{} for _ in query[1]]
    for word, at, row in changes:
        tables[at][row] = _times_behind(word, tables[at].get(row, 0), without)
    return products_sum(query, [{row: table[row] for row in table if table[row] != 0} for table in tables])


def is_case(rule, value):
    _check_rule(rule)
    if rule in KEEPING:
        return _is_keeping_case(rule, value)
    if not isinstance(value, tuple) or len(value) != (2 if rule in JOINING else 3):
        return False
    query, store = value[:2]
    if not is_query(query) or not is_store(query, store):
        return False
    if rule in JOINING:
        # No answer lacks without a rule of joining: so just more tuples go wrong.
        return _many_joined(query, store, rule) != _many_answers(query, store)
    if rule in JUDGING:
        # Whatever rule is left out, all points of a paper that is taken are answers, or all answers are
        # among them: so just another number of points goes wrong.
        return is_paper_of(query, store, value[2], rule) and len(value[2][0]) != _many_answers(query, store)
    layout = value[2]
    if not (is_layout(query, layout) if rule == "tree" else is_tree(query, layout)):
        return False
    return kept_rows(query, store, rule, layout) != useful_rows(query, store)


def _many_answers(query, store):
    return products_sum(query, [{row: 1 for row in table} for table in store])


def _is_keeping_case(rule, value):
    if not is_pair(value) or not is_query(value[0]) or not _are_changes(value[0], value[1]):
        return False
    query, changes = value
    return kept_count(query, changes, rule) != kept_count(query, changes, None)


def least_case(rule):
    _check_rule(rule)
    if rule in JOINING:
        return _joining_case(rule)
    if rule in REDUCING:
        return _reducing_case(rule)
    if rule in JUDGING:
        return _judging_case(rule)
    changes = [("take", 0, (0,))] if rule == "there" else [("put", 0, (0,)), ("put", 0, (0,))]
    return (1, ((0,),)), changes


def _joining_case(rule):
    if rule == "all":
        return (1, ((0,), (0,))), (((0,),), ())
    if rule == "known":
        return (2, ((0, 1),)), (((0, 0), (1, 1)),)
    return (3, ((0, 1, 2),)), (((0, 0, 0), (1, 0, 1)),)


def _reducing_case(rule):
    if rule == "tree":
        return (3, ((0, 1), (1, 2), (0, 2))), (((0, 0),), ((0, 0),), ((1, 0),)), (0, 0, 1)
    # The root's row, or the other atom's, is in no answer, but nobody tells it.
    store = (((0, 0),), ()) if rule == "up" else ((), ((0,),))
    return (2, ((0, 1), (1,))), store, (0, 0)


def _judging_case(rule):
    line = (0, None)
    if rule == "meet":
        gaps = ((0, ((0, 0), (1, None))), (0, ((1, None), line)))
        return (2, ((0, 1),)), (((0, 0),),), ((), gaps, (("box", 0), ("box", 1), ("join", 0, 1, 0)))
    query = (1, ((0,),))
    shown = (("box", 0),)
    if rule == "answer":
        return query, ((),), (((0,),), ((0, (line,)),), shown)
    if rule == "gap":
        return query, (((0,),),), ((), ((0, (line,)),), shown)
    if rule == "touch":
        gaps = ((0, ((0, 0),)), (0, ((2, None),)))
        return query, (((1,),),), ((), gaps, (("box", 0), ("box", 1), ("join", 0, 1, 0)))
    return query, (((0,),),), ((), ((0, ((1, None),)),), shown)
