import unittest
from itertools import product

from coverjoin.boxes import resolve, trie_gaps
from coverjoin.covering import covered, covers_all
from coverjoin.errors import BadBoxes, BadMany, BadPoints, TooMany
from helper import LAST, Dice, check_guards, check_judge, every_kind, good_box, good_cover_of, holds_plainly, number
from helper import numbers, plain_answers, plain_resolvent, plain_unit, raised, samples, wrong_values

LINE = (0, None)
STRETCHES = [(low, high) for low in range(4) for high in range(low, 4)] + [(low, None) for low in range(4)]
ENDS = [(LAST - 1, LAST - 1), (LAST - 1, None), (LAST, None), (0, LAST - 1), (0, LAST - 2), (2, LAST - 2)]


def starts(boxes, points, at):
    told = {0} | {box[at][0] for box in boxes} | {box[at][1] + 1 for box in boxes if box[at][1] is not None}
    return sorted(told | {p[at] for p in points} | {p[at] + 1 for p in points if p[at] < LAST})


def cells(many, boxes, points):
    result = 1
    for at in range(many):
        result *= len(starts(boxes, points, at))
    return result


def plain_hole(many, boxes, points):
    """The least point that no box holds and that is none of points, by looking at the corner of each cell."""
    for point in product(*[starts(boxes, points, at) for at in range(many)]):
        if point not in points and not any(holds_plainly(box, point) for box in boxes):
            return point
    return None


def some_lists(many, seed):
    """Lists of boxes and of points, by a fixed rule, many of which leave no hole."""
    dice = Dice(seed)
    for _ in range(many):
        width = 1 + dice.below(3)
        kinds = STRETCHES + ENDS if dice.below(3) == 0 else STRETCHES + [LINE] * 8
        boxes = [tuple(dice.one_of(kinds) for _ in range(width)) for _ in range(dice.below(9))]
        points = [tuple(dice.one_of([0, 1, 2, 3, 4, LAST]) for _ in range(width)) for _ in range(dice.below(4))]
        if dice.below(2):
            # Each hole gets a box of its own, so in the end there is none.
            while len(boxes) < 60:
                hole = plain_hole(width, boxes, points)
                if hole is None:
                    break
                boxes.append(tuple((n, None) if dice.below(2) else (n, n if n < LAST else None) for n in hole))
        yield width, boxes, points


class TestCovered(unittest.TestCase):

    def check_one(self, many, boxes, points):
        """That what is told is what is there; whether it is a hole."""
        hole = plain_hole(many, boxes, points)
        told = covered(many, boxes, points)
        self.assertTrue(type(told) is tuple and len(told) == 2)
        if hole is not None:
            self.assertEqual(told, ("hole", hole))
            return True
        self.assertEqual(told[0], "lines")
        self.assertIs(type(told[1]), tuple)
        self.assertTrue(good_cover_of(many, boxes, points, told[1]))
        self.assertIs(covers_all(many, boxes, points, told[1]), True)
        return False

    def test_a_hole_or_a_cover(self):
        told = {True: 0, False: 0}
        for many, boxes, points in some_lists(700, 821):
            told[self.check_one(many, boxes, points)] += 1
        self.assertGreater(min(told.values()), 100)

    def test_all_small_lists_of_boxes(self):
        kinds = [(0, 0), (0, 1), (1, 1), (1, None), (0, None)]
        boxes = list(product(kinds, repeat=2))
        for one in boxes:
            for other in boxes:
                for points in ([], [(0, 0)], [(1, 0), (0, 1)]):
                    self.check_one(2, [one, other], points)
        for chosen in product(kinds, repeat=3):
            self.check_one(1, [(stretch,) for stretch in chosen], [])

    def test_a_cover_shows_nothing_that_is_not_there(self):
        for many, boxes, points in some_lists(60, 822):
            told = covered(many, boxes, points)
            if told[0] == "lines":
                for k in range(1, len(told[1]) + 1):
                    # Each line's box is within the union: so its corners and all cells in it are held.
                    part = told[1][:k]
                    box = self.shown(boxes, points, part)
                    for point in product(*[starts(boxes, points, at) for at in range(many)]):
                        if holds_plainly(box, point):
                            self.assertTrue(point in points or any(holds_plainly(b, point) for b in boxes))

    def shown(self, boxes, points, lines):
        shown = []
        for word, *places in lines:
            if word == "join":
                shown.append(resolve(shown[places[0]], shown[places[1]], places[2]))
            else:
                shown.append(boxes[places[0]] if word == "box" else plain_unit(points[places[0]]))
        return shown[-1]

    def test_no_boxes_and_no_points(self):
        for many in range(1, 9):
            self.assertEqual(covered(many, [], ()), ("hole", (0,) * many))
            self.assertEqual(covered(many, (), [(0,) * many]), ("hole", (0,) * (many - 1) + (1,)))
            self.check_one(many, [(LINE,) * many], [])
            self.check_one(many, [((1, None),) + (LINE,) * (many - 1)], [])

    def test_a_hole_at_the_last_number(self):
        self.assertEqual(covered(1, [((0, LAST - 1),)], []), ("hole", (LAST,)))
        self.assertEqual(covered(2, [((0, LAST - 1), LINE), (LINE, (0, LAST - 1))], []), ("hole", (LAST, LAST)))
        self.check_one(1, [((0, LAST - 1),)], [(LAST,)])
        self.check_one(2, [((0, LAST - 1), LINE), (LINE, (0, LAST - 1))], [(LAST, LAST)])
        self.check_one(1, [((0, LAST - 2),), ((LAST, None),)], [(LAST - 1,)])
        self.assertEqual(covered(1, [((0, LAST - 2),), ((LAST, None),)], []), ("hole", (LAST - 1,)))

    def test_gaps_and_answers_leave_no_hole(self):
        for query, store in samples(40, 3, 3, 3, 5, 823):
            order = tuple(range(query[0]))
            boxes, points = [box for _, box in trie_gaps(query, store, order)], plain_answers(query, store)
            if cells(query[0], boxes, points) <= 20000:
                self.assertFalse(self.check_one(query[0], boxes, points))
                for k in range(len(points)):
                    self.assertEqual(covered(query[0], boxes, points[:k] + points[k + 1:]), ("hole", points[k]))

    def test_eight_attributes(self):
        boxes = []
        for at in range(8):
            for stretch in ((0, 2), (4, None)):
                boxes.append((LINE,) * at + (stretch,) + (LINE,) * (7 - at))
        self.assertEqual(covered(8, boxes, []), ("hole", (3,) * 8))
        self.assertFalse(self.check_one(8, boxes, [(3,) * 8]))

    def test_just_so_many_cells_and_more(self):
        # 20,000 starts: at each number and behind it.
        points = [(2 * k,) for k in range(10000)]
        boxes = [((2 * k + 1, 2 * k + 1),) for k in range(9999)] + [((19999, None),)]
        told = covered(1, boxes, points)
        self.assertTrue(good_cover_of(1, boxes, points, told[1]))
        self.assertEqual(covered(1, boxes, points[:-1]), ("hole", (19998,)))
        error = raised(covered, 1, boxes + [((5, 30000),)], points)
        self.assertEqual((type(error), error.most), (TooMany, 20000))
        # 200 times 100 starts, and one more at the second attribute.
        boxes = [((k, k), (min(k, 98), min(k, 98))) for k in range(199)]
        self.assertEqual(cells(2, boxes, []), 200 * 100)
        self.assertTrue(self.check_one(2, boxes, []))
        error = raised(covered, 2, boxes + [((0, 0), (50, 200))], [])
        self.assertEqual((type(error), error.most), (TooMany, 20000))
        # Behind the last number no cell begins, but behind the one ahead of it.
        boxes, points = [((2 * k + 1, 2 * k + 1),) for k in range(9999)], [(2 * k,) for k in range(9999)]
        self.assertEqual(covered(1, boxes, points + [(LAST,)]), ("hole", (19998,)))
        self.assertIs(type(raised(covered, 1, boxes, points + [(LAST - 1,)])), TooMany)

    def test_many_boxes_in_each_other(self):
        boxes = [((k, 30000 - k),) for k in range(9990)]
        self.assertEqual(covered(1, boxes, [(30001,)]), ("hole", (30002,)))
        self.assertFalse(self.check_one(1, boxes[:900] + [((5, None),)], []))

    def test_what_is_passed_is_not_changed(self):
        for many, boxes, points in some_lists(30, 824):
            before = (list(boxes), list(points))
            covered(many, boxes, points)
            self.assertEqual((boxes, points), before)
            self.assertEqual(covered(many, boxes, points), covered(many, tuple(boxes), tuple(points)))


BOXES = [((0, 3), LINE), ((4, None), (0, 5)), ((4, None), (5, None)), ((7, 7), (7, 7))]
POINTS = [(0, 0), (LAST, LAST)]
GOOD = (("box", 1), ("box", 2), ("join", 0, 1, 1), ("box", 0), ("join", 3, 2, 0))


class TestCoversAll(unittest.TestCase):

    def behind(self, lines, many):
        """The lines with their places as they are behind so many further ones."""
        return tuple((word, k + many, *[j + many for j in more[:1]], *more[1:]) if word == "join" else (word, k)
                     for word, k, *more in lines)

    def test_by_hand(self):
        self.assertIs(covers_all(2, BOXES, POINTS, GOOD), True)
        self.assertIs(covers_all(2, BOXES, POINTS, list(GOOD)), True)
        for value in (GOOD[:-1], GOOD[1:], GOOD + (("box", 0),), (), [], GOOD[:4] + (("join", 3, 4, 0),),
                      GOOD[:4] + (("join", 3, 5, 0),), GOOD[:4] + (("join", 3, 2, 1),), GOOD[:4] + (("join", 3, 2, 2),),
                      GOOD[:4] + (("join", 3, 2, -1),), GOOD[:4] + (("join", 3, -3, 0),), [list(line) for line in GOOD],
                      (("box", 4),) + GOOD, (("point", 2),), (("join", 0, 0, 0),), (("box", 0), ("join", 0, True, 0)),
                      (("box", False),), (("box", 0, 0),), (("box",),), ((),), ("box",), ("box", 0)):
            self.assertIs(covers_all(2, BOXES, POINTS, value), False, value)
        # Any line is judged, also ahead of those that show all.
        for line in (("points", 0), ("Point", 0), ("", 0), ("point",), ("point", 0, 0), ("point", 2), ("point", -1), ("point", True),
                     ("boxes", 0), ("box", 4), ("box", -1), ("box", 0, 0), ("join", 0, 0), ("joins", 0, 0, 0),
                     ("join", 0, 0, 0, 0), (0, 0), (None, 0), ("box", None), ["box", 0], "box", None):
            self.assertIs(covers_all(2, BOXES, POINTS, (("box", 0), line) + self.behind(GOOD, 2)), False, line)
        self.assertIs(covers_all(2, BOXES, POINTS, (("box", 0), ("point", 1)) + self.behind(GOOD, 2)), True)
        # A line that shows nothing spoils all, wherever it stands.
        self.assertIs(covers_all(2, BOXES, POINTS, (("box", 0), ("box", 3), ("join", 0, 1, 0)) + GOOD), False)
        self.assertIs(covers_all(1, [(LINE,)], [], [("box", 0)]), True)
        self.assertIs(covers_all(1, [(LINE,)], [], [("box", 0), ("join", 0, 0, 0)]), True)
        self.assertIs(covers_all(1, [], [(0,)], [("point", 0)]), False)
        self.assertIs(covers_all(2, [((0, 5), LINE), ((7, None), LINE)], [], (("box", 0), ("box", 1), ("join", 0, 1, 0))),
                      False)

    def test_any_value(self):
        for many, boxes, points, sample in ((2, BOXES, POINTS, GOOD), (1, [(LINE,)], [], [("box", 0)])):
            check_judge(self, lambda value: covers_all(many, boxes, points, value),
                        lambda value: good_cover_of(many, boxes, points, value), [sample])
        deep = GOOD
        for _ in range(55):
            deep = (deep,)
        self.assertIs(covers_all(2, BOXES, POINTS, deep), False)

    def test_lines_by_a_fixed_rule(self):
        dice = Dice(825)
        told = {True: 0, False: 0}
        for many, boxes, points in some_lists(250, 826):
            found = covered(many, boxes, points)
            lines = list(found[1]) if found[0] == "lines" else [("box", 0), ("point", 0), ("join", 0, 1, 0)]
            for _ in range(6):
                k = dice.below(len(lines))
                word, *places = lines[k]
                places[dice.below(len(places))] = dice.below(len(lines) + 1)
                changed = lines[:k] + [(word, *places)] + lines[k + 1:]
                plain = good_cover_of(many, boxes, points, changed)
                told[plain] += 1
                self.assertIs(covers_all(many, boxes, points, changed), plain)
        self.assertGreater(min(told.values()), 50)

    def test_the_judge_s_resolvents(self):
        # The test's own resolvents against those of the package.
        dice = Dice(827)
        for _ in range(2000):
            one, other = (tuple(dice.one_of(STRETCHES + ENDS) for _ in range(2)) for _ in range(2))
            self.assertEqual(resolve(one, other, 1), plain_resolvent(one, other, 1))


class TestWrong(unittest.TestCase):

    def test_wrong(self):
        many = (BadMany, lambda many: number(many) and 1 <= many <= 8)

        def boxes(many, value):
            return type(value) in (list, tuple) and all(good_box(many, box) for box in value)

        def points(many, boxes, value):
            return type(value) in (list, tuple) and all(numbers(point, many, 0) for point in value)
        guards = [many, (BadBoxes, boxes), (BadPoints, points)]
        for sample in ((2, BOXES, POINTS), (2, tuple(BOXES), tuple(POINTS)), (1, [], []), (8, [(LINE,) * 8], [(1,) * 8])):
            check_guards(self, covered, sample, guards)
            check_guards(self, covers_all, sample + (GOOD,), guards)

    def test_too_many_comes_behind_all(self):
        boxes = [((k, k), (k, k)) for k in range(200)]
        self.assertIs(type(raised(covered, 2, boxes, [])), TooMany)
        for value in every_kind() + wrong_values([(0, 0)]):
            if type(value) not in (list, tuple) or not all(numbers(point, 2, 0) for point in value):
                self.assertIs(type(raised(covered, 2, boxes, value)), BadPoints)
        self.assertIs(type(raised(covered, 2, boxes + [((0, 0),)], [])), BadBoxes)


if __name__ == "__main__":
    unittest.main()
