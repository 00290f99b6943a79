import unittest

import coverjoin.errors as errors
from coverjoin.errors import JoinError

NAMES = """BadAbove, BadAnswer, BadAnswers, BadAtom, BadAttribute, BadAttributes, BadBag, BadBits, BadBox, BadBoxes,
BadChanges, BadColouring, BadCore, BadCorner, BadCounts, BadCover, BadCut(at), BadCuts, BadExponents, BadForest,
BadGone, BadIndex, BadKeys, BadKnown, BadLayout, BadLeft, BadLevel, BadLine, BadLists, BadLots, BadMany, BadMatrix,
BadMost, BadNode, BadNumber, BadNumbers, BadOrder, BadPair, BadPlace, BadPlaces, BadPlan, BadPoint, BadPoints,
BadPowers, BadProgram, BadQuery, BadRight, BadRoot, BadRow, BadRule, BadShares, BadSize, BadStart, BadStore,
BadText(at), BadThrifty, BadTree, BadValues, BadWanted, BadWeights, BadWide, BadWished, Cyclic(knot), NoAnswer, NoKnot,
NoPath, NotConnected(path), NotHierarchical(pair), NotSimple, NotSmooth(trio), NotThere, There, TooMany(most)"""


def listed():
    """The pairs of a name and its attribute or None."""
    for word in NAMES.replace("\n", " ").split(", "):
        name, _, attribute = word.rstrip(")").partition("(")
        yield name, attribute or None


class TestErrors(unittest.TestCase):

    def test_join_error_is_a_value_error(self):
        self.assertEqual(JoinError.__bases__, (ValueError,))

    def test_all_are_there_directly_below_join_error(self):
        self.assertEqual(len(list(listed())), 73)
        for name, _ in listed():
            self.assertEqual(getattr(errors, name).__bases__, (JoinError,), name)
            self.assertEqual(getattr(errors, name).__module__, "coverjoin.errors")

    def test_nothing_else_is_there(self):
        there = {name for name in vars(errors) if not name.startswith("__")}
        self.assertEqual(there, {name for name, _ in listed()} | {"JoinError"})

    def test_attributes_by_position_and_by_name(self):
        for name, attribute in listed():
            if attribute is not None:
                for value in (3, ("ring", (0, 1, 2, 3)), None):
                    self.assertEqual(getattr(getattr(errors, name)(value), attribute), value)
                    self.assertEqual(getattr(getattr(errors, name)(**{attribute: value}), attribute), value)

    def test_the_others_of_any_text(self):
        for name, attribute in listed():
            if attribute is None:
                self.assertEqual(str(getattr(errors, name)("any text")), "any text")

    def test_they_are_caught_as_join_error(self):
        for name, _ in listed():
            with self.assertRaises(JoinError):
                raise getattr(errors, name)(0)


if __name__ == "__main__":
    unittest.main()
