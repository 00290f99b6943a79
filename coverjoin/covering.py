"""Covers: lines that join boxes into the whole, and the holes that boxes leave otherwise."""

from coverjoin.boxes import LAST, check_many, has_number, is_box_of, resolved, unit, whole
from coverjoin.checks import are_from, is_below
from coverjoin.errors import BadBoxes, BadPoints, TooMany

# The most cells that are gone through.
CELLS = 20000


def _check_lists(many, boxes, points):
    check_many(many)
    if not isinstance(boxes, (list, tuple)) or not all(is_box_of(many, box) for box in boxes):
        raise BadBoxes("not a list of boxes for so many attributes")
    if not isinstance(points, (list, tuple)) or not all(are_from(point, many, 0) for point in points):
        raise BadPoints("not a list of points for so many attributes")


def _shown(boxes, points, shown, line, without):
    """The box that any value shows as a line, behind lines that show these; None if it shows none."""
    if not isinstance(line, tuple) or len(line) < 2 or not isinstance(line[0], str):
        return None
    if line[0] == "join":
        return _joined(shown, line, without)
    if line[0] == "box" and len(line) == 2 and is_below(line[1], len(boxes)):
        return boxes[line[1]]
    if line[0] == "point" and len(line) == 2 and is_below(line[1], len(points)):
        return unit(points[line[1]])
    return None


def _joined(shown, line, without):
    if len(line) != 4:
        return None
    _, one, other, attribute = line
    if not is_below(one, len(shown)) or not is_below(other, len(shown)):
        return None
    if not is_below(attribute, len(shown[one])):
        return None
    return resolved(shown[one], shown[other], attribute, without)


def last_shown(boxes, points, value, without=None):
    """The box that the last one of lines shows; None if any value is no list of lines, or an empty one.

    A rule of care may be left out, as of resolvents.
    """
    if not isinstance(value, (list, tuple)) or len(value) == 0:
        return None
    shown = []
    for line in value:
        box = _shown(boxes, points, shown, line, without)
        if box is None:
            return None
        shown.append(box)
    return shown[-1]


def covers_all(many, boxes, points, value):
    _check_lists(many, boxes, points)
    return last_shown(boxes, points, value) == whole(many)


class Lines:
    """Lines one behind another, and the boxes that they show."""

    def __init__(self):
        self.lines = []
        self.shown = []
        # The lines that show the boxes and points, which stand there once.
        self._places = {}

    def _put(self, line, box):
        self.lines.append(line)
        self.shown.append(box)
        return len(self.lines) - 1

    def told(self, word, k, box):
        """The place of the line that shows a box or the unit of a point by its place k."""
        if (word, k) not in self._places:
            self._places[(word, k)] = self._put((word, k), box)
        return self._places[(word, k)]

    def joined(self, last, place, attribute):
        """The place of the line that joins two, just the second one if there is no first one."""
        if last is None:
            return place
        box = resolved(self.shown[last], self.shown[place], attribute)
        return self._put(("join", last, place, attribute), box)

    def next_number(self, last, attribute):
        """The number behind the stretch that a line shows at the attribute, None if there is none."""
        high = self.shown[last][attribute][1]
        return None if high is None else high + 1


class Sweep:
    """Pieces, boxes with the lines that show them, gone through attribute by attribute."""

    def __init__(self, many):
        self._many = many
        self.lines = Lines()
        self.left_out = None

    def below(self, pieces, known):
        """The place of a line whose box has the known numbers at the first attributes and is whole at
        the others, all pieces having the known numbers; None if there is a hole, which is kept."""
        at = len(known)
        if at == self._many:
            if len(pieces) == 0:
                self.left_out = known
                return None
            word, k, box = _furthest(pieces, at - 1)
            return self.lines.told(word, k, box)
        waiting = sorted([(pieces[k][2][at][0], k) for k in range(len(pieces))])
        begun = 0
        here = []
        last = None
        number = 0
        while number is not None:
            here = [piece for piece in here if has_number(piece[2][at], number)]
            while begun < len(waiting) and waiting[begun][0] <= number:
                piece = pieces[waiting[begun][1]]
                if has_number(piece[2][at], number):
                    here.append(piece)
                begun += 1
            place = self.below(here, known + (number,))
            if place is None:
                return None
            last = self.lines.joined(last, place, at)
            number = self.lines.next_number(last, at)
        return last


def _furthest(pieces, at):
    """The piece that reaches furthest at the attribute."""
    best = pieces[0]
    for piece in pieces:
        high = piece[2][at][1]
        if high is None:
            return piece
        if high > best[2][at][1]:
            best = piece
    return best


def _starts(boxes, points, at):
    """How many numbers there are at which boxes and points begin, or right behind which they end."""
    starts = [0] + [box[at][0] for box in boxes] + [point[at] for point in points]
    starts.extend([box[at][1] + 1 for box in boxes if box[at][1] is not None])
    starts.extend([point[at] + 1 for point in points if point[at] < LAST])
    return len(set(starts))


def covered(many, boxes, points):
    _check_lists(many, boxes, points)
    cells = 1
    for at in range(many):
        cells = cells * _starts(boxes, points, at)
    if cells > CELLS:
        raise TooMany(CELLS)
    pieces = [("box", k, boxes[k]) for k in range(len(boxes))]
    pieces.extend([("point", k, unit(points[k])) for k in range(len(points))])
    sweep = Sweep(many)
    if sweep.below(pieces, ()) is None:
        return "hole", sweep.left_out
    return "lines", tuple(sweep.lines.lines)
