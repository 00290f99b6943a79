import unittest
from itertools import product

from coverjoin.answers import answers
from coverjoin.care import care_rules, is_case, joined_by, kept_count, kept_rows, least_case, taken_by, useful_rows
from coverjoin.errors import BadChanges, BadRule, BadStore, BadTree
from coverjoin.papers import lacks_none, paper_of
from coverjoin.reduce import program_of, run
from helper import plain_shown, EQUAL, ONE, PATH, QUERY, RING, STORE, TRIANGLE, TRIANGLE_STORE, Dice, acyclic_samples
from helper import all_stores, an_order, answer_plainly, check_guards, check_judge, every_kind, gap_plainly, good_box
from helper import good_layout, good_paper, good_query, good_store, good_tree, live_store, number, numbers, plain_answers
from helper import plain_run, raised, samples, some_query, some_store, trees_of, wrong_values

JOINING = ("all", "known", "part")
REDUCING = ("tree", "up", "down")
JUDGING = ("answer", "gap", "touch", "meet", "whole")
KEEPING = ("once", "there")
RULES = JOINING + REDUCING + JUDGING + KEEPING


def plain_joined(query, store, without):
    """The tuples, number by number, as point 110 tells them."""
    tuples = [()]
    for a in range(query[0]):
        asked = [(atom, table) for atom, table in zip(query[1], store) if a in atom]
        if without == "all":
            asked = asked[:1]
        further = []
        for known in tuples:
            lists = []
            for atom, table in asked:
                looked = [b for b in atom if b < a]
                looked = [] if without == "known" else looked[-1:] if without == "part" else looked
                lists.append({row[atom.index(a)] for row in table if all(row[atom.index(b)] == known[b] for b in looked)})
            further += [known + (n,) for n in sorted(set.intersection(*lists))]
        tuples = further
    return tuple(tuples)


def depth(layout, at):
    return 0 if layout[at] == at else 1 + depth(layout, layout[at])


def plain_kept(query, store, without, layout):
    """The store that is left, link by link."""
    links = sorted([at for at in range(len(layout)) if layout[at] != at], key=lambda at: -depth(layout, at))
    up, down = [(layout[at], at) for at in links], [(at, layout[at]) for at in links[::-1]]
    program = ([] if without == "up" else up) + ([] if without == "down" else down)
    return plain_run(query, store, program)[0]


def hull(one, other):
    highs = [high for _, high in (one, other)]
    return min(one[0], other[0]), None if None in highs else max(highs)


def common(one, other):
    low, highs = max(one[0], other[0]), [high for _, high in (one, other) if high is not None]
    if highs and min(highs) < low:
        return None
    return low, min(highs) if highs else None


def plain_join(one, other, attribute, without):
    told = []
    for k, (left, right) in enumerate(zip(one, other)):
        beside = left[1] is not None and left[1] + 1 == right[0] or right[1] is not None and right[1] + 1 == left[0]
        if k == attribute:
            if without != "touch" and common(left, right) is None and not beside:
                return None
            told.append(hull(left, right))
        else:
            told.append(hull(left, right) if without == "meet" else common(left, right))
    return None if None in told else tuple(told)


def plain_taken(query, store, value, without):
    """Whether any value is a paper without a rule, as point 110 tells it."""
    if type(value) is not tuple or len(value) != 3 or not all(type(item) is tuple for item in value):
        return False
    points, gaps, lines = value
    if not all(numbers(point, query[0], 0) for point in points) or list(points) != sorted(set(points)):
        return False
    if without != "answer" and not all(answer_plainly(query, store, point) for point in points):
        return False
    for gap in gaps:
        if type(gap) is not tuple or len(gap) != 2 or not number(gap[0]) or gap[0] not in range(len(store)):
            return False
        if not good_box(query[0], gap[1]) or (without != "gap" and not gap_plainly(query, store, *gap)):
            return False
    shown = plain_shown([box for _, box in gaps], points, lines,
                        lambda one, other, attribute: plain_join(one, other, attribute, without))
    return shown is not None and (without == "whole" or shown == ((0, None),) * query[0])


def plain_count(query, changes, without):
    """How often rows are there, change by change, and the sum by going through the answers."""
    times = {}
    for word, at, row in changes:
        now = times.get((at, row), 0)
        if word == "put" and (now <= 0 or without == "once"):
            times[at, row] = now + 1
        if word == "take" and (now != 0 or without == "there"):
            times[at, row] = now - 1
    store = tuple(tuple(sorted(row for (k, row), n in times.items() if k == at and n)) for at in range(len(query[1])))
    total = 0
    for answer in plain_answers(query, store):
        product_of = 1
        for at, atom in enumerate(query[1]):
            product_of *= times[at, tuple(answer[a] for a in atom)]
        total += product_of
    return total, store


def good_changes(query, value):
    if type(value) not in (list, tuple) or len(value) > 300:
        return False
    for change in value:
        if type(change) is not tuple or len(change) != 3 or type(change[0]) is not str or change[0] not in ("put", "take"):
            return False
        if not number(change[1]) or change[1] not in range(len(query[1])):
            return False
        if not numbers(change[2], len(query[1][change[1]]), 0):
            return False
    return True


def some_changes(dice, query, many, limit):
    changes = []
    for _ in range(dice.below(many + 1)):
        at = dice.below(len(query[1]))
        changes.append((dice.one_of(["put", "put", "take"]), at, tuple(dice.below(limit) for _ in query[1][at])))
    return changes


def goes_wrong(rule, value):
    """Whether any value is a case that goes wrong, as point 112 tells it."""
    if type(value) is not tuple or len(value) != (2 if rule in JOINING + KEEPING else 3) or not good_query(value[0]):
        return False
    query = value[0]
    if rule in KEEPING:
        return good_changes(query, value[1]) and plain_count(query, value[1], rule)[0] != plain_count(query, value[1], None)[0]
    store = value[1]
    if not good_store(query, store):
        return False
    if rule in JOINING:
        return plain_joined(query, store, rule) != plain_answers(query, store)
    if rule in JUDGING:
        return plain_taken(query, store, value[2], rule) and value[2][0] != plain_answers(query, store)
    if not (good_layout if rule == "tree" else good_tree)(query, value[2]):
        return False
    return plain_kept(query, store, rule, value[2]) != live_store(query, store)


class TestJoining(unittest.TestCase):

    def test_all_rules_and_without_each(self):
        wrong = {rule: 0 for rule in JOINING}
        for query, store in samples(150, 4, 4, 3, 7, 1101):
            found = plain_answers(query, store)
            self.assertEqual(joined_by(query, store, None), found)
            for rule in JOINING:
                told = joined_by(query, store, rule)
                self.assertEqual(told, plain_joined(query, store, rule))
                self.assertLessEqual(set(found), set(told))
                self.assertEqual(list(told), sorted(set(told)))
                wrong[rule] += told != found
                self.assertIs(is_case(rule, (query, store)), told != found)
        self.assertGreater(min(wrong.values()), 10)

    def test_by_hand(self):
        query, store = (2, ((0, 1),)), (((0, 0), (1, 1)),)
        self.assertEqual(joined_by(query, store, None), ((0, 0), (1, 1)))
        for rule in JOINING:
            self.assertEqual(joined_by(query, store, rule), tuple(product((0, 1), repeat=2)) if rule == "known" else store[0])
        self.assertEqual(joined_by((1, ((0,), (0,))), (((0,),), ()), "all"), ((0,),))

    def test_far_more_than_could_be_gone_through(self):
        full = tuple((n,) * 8 for n in range(400))
        wide = (8, (tuple(range(8)),))
        self.assertEqual(joined_by(wide, (full,), None), full)
        self.assertIs(is_case("known", (wide, (full,))), True)
        self.assertIs(is_case("part", (wide, (full,))), False)
        self.assertIs(is_case("all", (wide, (full,))), False)


class TestReducing(unittest.TestCase):

    def test_all_rules_and_without_each(self):
        wrong = {rule: 0 for rule in REDUCING}
        for query, store in acyclic_samples(80, 4, 4, 3, 7, 1102):
            useful = live_store(query, store)
            self.assertEqual(useful_rows(query, store), useful)
            for layout in list(trees_of(query))[:4]:
                self.assertEqual(kept_rows(query, store, None, layout), useful)
                self.assertEqual(kept_rows(query, store, "tree", layout), useful)
                self.assertEqual(kept_rows(query, store, None, layout), run(query, store, program_of(query, layout))[0])
                for rule in ("up", "down"):
                    told = kept_rows(query, store, rule, layout)
                    self.assertEqual(told, plain_kept(query, store, rule, layout))
                    self.assertTrue(all(set(few) <= set(many) for few, many in zip(useful, told)))
                    wrong[rule] += told != useful
                    self.assertIs(is_case(rule, (query, store, layout)), told != useful)
        for query, store in samples(100, 4, 4, 3, 5, 1103):
            useful = live_store(query, store)
            self.assertEqual(useful_rows(query, store), useful)
            many = len(query[1])
            layouts = [value for value in product(range(many), repeat=many) if good_layout(query, value)]
            for layout in layouts[:6]:
                told = kept_rows(query, store, "tree", layout)
                self.assertEqual(told, plain_kept(query, store, "tree", layout))
                self.assertTrue(all(set(few) <= set(kept) for few, kept in zip(useful, told)))
                wrong["tree"] += told != useful
                self.assertIs(is_case("tree", (query, store, layout)), told != useful)
                if not good_tree(query, layout):
                    for rule in (None, "up", "down"):
                        self.assertIs(type(raised(kept_rows, query, store, rule, layout)), BadTree)
                    self.assertIs(is_case("up", (query, store, layout)), False)
        self.assertGreater(min(wrong.values()), 10)

    def test_by_hand(self):
        query, store = (3, ((0, 1), (1, 2), (0, 2))), (((0, 0),), ((0, 0),), ((1, 0),))
        self.assertEqual(kept_rows(query, store, "tree", (0, 0, 1)), store)
        self.assertEqual(useful_rows(query, store), ((), (), ()))
        self.assertIs(is_case("tree", (query, store, (0, 0, 1))), True)
        self.assertEqual(useful_rows(TRIANGLE, TRIANGLE_STORE), live_store(TRIANGLE, TRIANGLE_STORE))

    def test_useful_rows_of_great_stores(self):
        full = tuple((n,) for n in range(400))
        query = (8, tuple((a,) for a in range(8)))
        self.assertEqual(useful_rows(query, (full,) * 8), (full,) * 8)
        self.assertEqual(useful_rows(query, (full,) * 7 + ((),)), ((),) * 8)


class TestJudging(unittest.TestCase):

    def papers(self, many, seed):
        """Stores and papers, right ones and such of other stores, and with joins that are changed."""
        dice = Dice(seed)
        for _ in range(many):
            query = some_query(dice, 2, 2)
            store, other = some_store(dice, query, 2, 3), some_store(dice, query, 3, 4)
            for value in (paper_of(query, store, an_order(dice, query)), paper_of(query, other, an_order(dice, query))):
                yield query, store, value
                points, gaps, lines = value
                yield query, store, (points, gaps, lines[:1 + dice.below(len(lines))])
                yield query, store, (points[1:], gaps, lines)
                boxes = tuple((at, tuple(dice.one_of([(0, 0), (0, None), (1, None), (2, None), s]) for s in box))
                              for at, box in gaps)
                yield query, store, (points, boxes, lines)
                if len(gaps) > 1:
                    joins = (("box", 0), ("box", len(gaps) - 1), ("join", 0, 1, dice.below(query[0])))
                    yield query, store, (points, gaps, joins)
                    yield query, store, ((), gaps, joins)

    def test_all_rules_and_without_each(self):
        taken = {rule: 0 for rule in (None, *JUDGING)}
        wrong = {rule: 0 for rule in JUDGING}
        for query, store, value in self.papers(500, 1104):
            right = good_paper(query, store, value)
            self.assertIs(taken_by(query, store, value, None), right)
            self.assertIs(lacks_none(query, store, value), right)
            if right:
                self.assertEqual(value[0], plain_answers(query, store))
            for rule in (None, *JUDGING):
                told = taken_by(query, store, value, rule)
                self.assertIs(told, plain_taken(query, store, value, rule))
                self.assertTrue(told or not right)
                taken[rule] += told
                if rule:
                    plain = told and value[0] != plain_answers(query, store)
                    self.assertIs(is_case(rule, (query, store, value)), plain)
                    wrong[rule] += plain
        self.assertGreater(min(taken.values()), 300)
        self.assertGreater(min(wrong.values()), 2)

    def test_any_value(self):
        paper = paper_of(TRIANGLE, TRIANGLE_STORE, (0, 1, 2))
        small = paper_of(ONE, (((3,),),), (0,))
        for rule in (None, *JUDGING):
            check_judge(self, lambda value: taken_by(ONE, (((3,),),), value, rule),
                        lambda value: plain_taken(ONE, (((3,),),), value, rule), [small])
            for value in every_kind() + [paper, paper[:2], list(paper), (paper,), paper + ((),)]:
                self.assertIs(taken_by(TRIANGLE, TRIANGLE_STORE, value, rule),
                              plain_taken(TRIANGLE, TRIANGLE_STORE, value, rule))

    def test_by_hand(self):
        line = (0, None)
        # Without "touch" the other attributes are looked at all the same, and the other way round.
        gaps = ((0, ((0, 0), (0, 3))), (0, ((2, None), (5, None))), (0, ((1, None), (5, None))))
        for k, rule, plain in ((1, "touch", False), (1, "meet", False), (2, "meet", True), (2, "touch", False)):
            value = ((), gaps, (("box", 0), ("box", k), ("join", 0, 1, 0)))
            self.assertIs(taken_by((2, ((0, 1),)), ((),), value, rule), plain)
        self.assertIs(taken_by(ONE, (((0,),),), ((), (), (("box", 0),)), "whole"), False)
        self.assertIs(taken_by(ONE, (((0,),),), ((), (), ()), "whole"), False)
        self.assertIs(taken_by(ONE, (((0,),),), (((0,),), (), (("point", 0),)), "whole"), True)
        self.assertIs(taken_by(ONE, (((0,),),), ((), ((1, (line,)),), (("box", 0),)), "gap"), False)
        self.assertIs(taken_by(ONE, ((),), (((1,), (0,)), ((0, (line,)),), (("box", 0),)), "answer"), False)


class TestKeeping(unittest.TestCase):

    def test_all_rules_and_without_each(self):
        dice = Dice(1105)
        wrong = {rule: 0 for rule in KEEPING}
        negative = 0
        for _ in range(500):
            query = some_query(dice, 3, 3)
            changes = some_changes(dice, query, 14, 2)
            right, store = plain_count(query, changes, None)
            self.assertEqual(kept_count(query, changes, None), right)
            self.assertEqual(right, len(plain_answers(query, store)))
            for rule in KEEPING:
                told = kept_count(query, tuple(changes), rule)
                self.assertEqual(told, plain_count(query, changes, rule)[0])
                wrong[rule] += told != right
                negative += told < 0
                self.assertIs(is_case(rule, (query, changes)), told != right)
        self.assertGreater(min(wrong.values()), 30)
        self.assertGreater(negative, 10)

    def test_by_hand(self):
        put, take = ("put", 0, (5,)), ("take", 0, (5,))
        for changes, told in (([], (0, 0, 0)), ([put], (1, 1, 1)), ([put, put], (1, 2, 1)), ([take], (0, 0, -1)),
                              ([take, take], (0, 0, -2)), ([take, put], (1, 1, 0)), ([take, take, put], (1, 1, -1)),
                              ([put, take], (0, 0, 0)), ([put, put, take], (0, 1, 0)), ([take, put, put], (1, 2, 1)),
                              ([put, take, take], (0, 0, -1)), ([take, put, put, put], (1, 3, 1))):
            self.assertEqual(tuple(kept_count(ONE, changes, rule) for rule in (None, "once", "there")), told, changes)

    def test_three_hundred_changes(self):
        query = (8, tuple((a,) for a in range(8)))
        changes = [("put", k % 8, (k,)) for k in range(300)]
        many = [len([k for k in range(300) if k % 8 == at]) for at in range(8)]
        total = 1
        for n in many:
            total *= n
        for rule in (None, "once", "there"):
            self.assertEqual(kept_count(query, changes, rule), total)
        self.assertIs(type(raised(kept_count, query, changes + changes[:1], None)), BadChanges)
        dice = Dice(1106)
        for query in (TRIANGLE, RING, PATH, EQUAL):
            changes = []
            for k in range(300):
                at = dice.below(len(query[1]))
                row = tuple(dice.below(9) for _ in query[1][at])
                changes.append(("put", at, row if k % 3 else row[:1] * len(row)))
            self.assertEqual(kept_count(query, changes, None), len(answers(query, plain_count(query, changes, None)[1])))
            for rule in KEEPING:
                self.assertEqual(kept_count(query, changes, rule), plain_count(query, changes, rule)[0])

    def test_what_is_passed_is_not_changed(self):
        changes = [("put", 0, (5,)), ("put", 0, (5,))]
        kept_count(ONE, changes, "once")
        self.assertEqual(changes, [("put", 0, (5,))] * 2)


class TestCases(unittest.TestCase):

    def test_care_rules(self):
        self.assertEqual(care_rules(), RULES)

    def test_least_cases(self):
        told = {"all": ((1, ((0,), (0,))), 1), "known": ((2, ((0, 1),)), 2), "part": ((3, ((0, 1, 2),)), 2),
                "tree": ((3, ((0, 1), (1, 2), (0, 2))), 3), "up": ((2, ((0, 1), (1,))), 1), "down": ((2, ((0, 1), (1,))), 1),
                "meet": ((2, ((0, 1),)), 1), "answer": (ONE, 0), "gap": (ONE, 1), "touch": (ONE, 1), "whole": (ONE, 1),
                "there": (ONE, 1), "once": (ONE, 2)}
        for rule in RULES:
            case = least_case(rule)
            query, many = told[rule]
            self.assertEqual(case[0], query)
            self.assertEqual(len(case[1]) if rule in KEEPING else sum(len(table) for table in case[1]), many, rule)
            self.assertTrue(goes_wrong(rule, case), rule)
            self.assertIs(is_case(rule, case), True)

    def test_each_needs_its_own_rule(self):
        for rule in RULES:
            case = least_case(rule)
            for other in RULES:
                self.assertIs(is_case(other, case), goes_wrong(other, case))

    def test_no_fewer_rows_go_wrong(self):
        for rule in JOINING + REDUCING:
            case = least_case(rule)
            query, many = case[0], sum(len(table) for table in case[1])
            fits = good_layout if rule == "tree" else good_tree
            layouts = [value for value in product(range(len(query[1])), repeat=len(query[1])) if fits(query, value)]
            for store in self.stores(query, many - 1):
                if rule in JOINING:
                    self.assertIs(is_case(rule, (query, store)), False)
                for layout in layouts if rule in REDUCING else ():
                    self.assertIs(is_case(rule, (query, store, layout)), False)

    def stores(self, query, most):
        """All stores of the numbers 0 to 2 with at most so many rows in all tables."""
        rows = [(at, row) for at, atom in enumerate(query[1]) for row in product(range(3), repeat=len(atom))]
        chosen = [()]
        for _ in range(most):
            chosen += [told + (row,) for told in chosen for row in rows if not told or row > told[-1]]
        for told in set(chosen):
            yield tuple(tuple(sorted(row for k, row in told if k == at)) for at in range(len(query[1])))

    def test_no_papers_with_fewer_rows_go_wrong(self):
        # Without rows all answers are none: any points that have to be answers are just these.
        line = (0, None)
        kinds = [(0, 0), (1, None), line, (2, None)]
        for rule in ("gap", "touch", "whole", "meet"):
            query = least_case(rule)[0]
            for boxes in product(product(kinds, repeat=query[0]), repeat=2):
                gaps = tuple((0, box) for box in boxes)
                for lines in ((("box", 0),), (("box", 0), ("box", 1), ("join", 0, 1, 0))):
                    for points in ((), ((0,) * query[0],), ((1,) * query[0],)):
                        self.assertIs(is_case(rule, (query, ((),), (points, gaps, lines))), False)

    def test_no_fewer_changes_go_wrong(self):
        changes = [(word, 0, (n,)) for word in ("put", "take") for n in range(3)]
        self.assertIs(is_case("there", (ONE, [])), False)
        for told in [[]] + [[change] for change in changes]:
            self.assertIs(is_case("once", (ONE, told)), False)

    def test_small_cases(self):
        query = (2, ((0, 1), (1,)))
        for store in all_stores(query, 2):
            for rule in JOINING:
                self.assertIs(is_case(rule, (query, store)), goes_wrong(rule, (query, store)))
            for rule in REDUCING:
                for layout in ((0, 0), (1, 1)):
                    self.assertIs(is_case(rule, (query, store, layout)), goes_wrong(rule, (query, store, layout)))

    def test_any_value(self):
        for rule in RULES:
            case = least_case(rule)
            check_judge(self, lambda value: is_case(rule, value), lambda value: goes_wrong(rule, value), [case])
            deep = case
            for _ in range(52):
                deep = (deep, case[1])
            self.assertIs(is_case(rule, deep), False)

    def test_least_cases_are_new(self):
        for rule in KEEPING:
            case = least_case(rule)
            if isinstance(case[1], list):
                case[1].clear()
            self.assertIs(is_case(rule, least_case(rule)), True)


class TestWrong(unittest.TestCase):

    def rules(self, own):
        return (BadRule, lambda *told: told[-1] is None or (type(told[-1]) is str and told[-1] in own))

    def test_wrong(self):
        check_guards(self, joined_by, (TRIANGLE, TRIANGLE_STORE, "all"), [QUERY, STORE, self.rules(JOINING)])
        check_guards(self, useful_rows, (TRIANGLE, TRIANGLE_STORE), [QUERY, STORE])
        check_guards(self, taken_by, (TRIANGLE, TRIANGLE_STORE, None, "gap"), [QUERY, STORE, (None, None), self.rules(JUDGING)])
        store = (((0, 0),), ((0, 1),))
        tree = (BadTree, lambda query, store, without, layout: good_tree(query, layout))
        layout = (BadTree, lambda query, store, without, layout: good_layout(query, layout))
        for rule, guard in ((None, tree), ("up", tree), ("down", tree), ("tree", layout)):
            check_guards(self, kept_rows, (PATH, store, rule, (0, 0)), [QUERY, STORE, self.rules(REDUCING), guard])
        changes = (BadChanges, lambda query, value: good_changes(query, value))
        good = [("put", 0, (0, 1)), ("take", 1, (1, 2)), ("put", 1, (1, 2))]
        for told in (good, tuple(good), []):
            check_guards(self, kept_count, (PATH, told, "once"), [QUERY, changes, self.rules(KEEPING)])

    def test_words_of_changes(self):
        for word in ("", "Put", "puts", "taken", None, 0, True, ("put",), ["put"], b"put"):
            for changes in ([(word, 0, (5,))], [("put", 0, (5,)), (word, 0, (5,))]):
                self.assertIs(type(raised(kept_count, ONE, changes, None)), BadChanges)
                self.assertIs(is_case("once", (ONE, changes + [("put", 0, (5,))])), False)
        self.assertIs(type(raised(kept_count, ONE, [("put", 0, (5,), 0)], None)), BadChanges)

    def test_rules_of_other_procedures(self):
        for rule in RULES + ("", "None", "no such rule"):
            for function, own, more in ((joined_by, JOINING, ()), (kept_rows, REDUCING, ((0, 0),))):
                told = raised(function, PATH, ((), ()), rule, *more)
                self.assertIs(type(told), type(None) if rule in own else BadRule)
            self.assertIs(type(raised(taken_by, PATH, ((), ()), None, rule)), type(None) if rule in JUDGING else BadRule)
            self.assertIs(type(raised(kept_count, PATH, [], rule)), type(None) if rule in KEEPING else BadRule)
            self.assertIs(type(raised(joined_by, PATH, None, rule)), BadStore)

    def test_no_such_rule(self):
        for value in every_kind() + wrong_values("all") + ["All", "all ", ("all",), ["all"]]:
            for function, more in ((least_case, ()), (is_case, (None,)), (is_case, ((TRIANGLE, TRIANGLE_STORE),))):
                self.assertIs(type(raised(function, value, *more)), BadRule, value)


if __name__ == "__main__":
    unittest.main()
