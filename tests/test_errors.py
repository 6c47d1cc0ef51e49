"""Point 5: the errors, what they are below, what they are made of."""

import copy
import inspect
import unittest

from splitbooks import errors
from tests.samples import STRANGE

ATTRIBUTES = {
    "BadBasis": None, "BadBook": "part", "BadBrackets": "part", "BadBraid": None, "BadCrossed": "part",
    "BadCrossing": None, "BadCut": None, "BadDeed": None, "BadDoing": "part", "BadForm": None, "BadGrades": None,
    "BadGroup": None, "BadInner": "part", "BadLeads": "part", "BadLetters": None, "BadLive": None, "BadMap": None,
    "BadName": None, "BadNumber": "part", "BadOrders": None, "BadPair": None, "BadPairRoom": None, "BadPrime": None,
    "BadRoom": "part", "BadRow": None, "BadSelfsplit": None, "BadShape": "part", "BadSquare": None, "BadStart": None,
    "BadStay": None, "BadStrands": None, "BadTable": "part", "BadText": "at", "BadThing": None, "BadTwist": None,
    "BadWay": None, "BadWeigher": None, "NoMark": "name", "NoTwist": None, "NoWatch": "name", "NotSimple": None,
    "NothingLeft": None, "TooMany": "most",
}
VALUES = STRANGE + [0, -1, 7, ("both", 1, 2), ("back",), "prime", [1, [2]], {"a": [1]}]


class ErrorsTest(unittest.TestCase):

    def test_just_these_classes(self):
        self.assertEqual(len(ATTRIBUTES), 43)
        found = {name for name, value in vars(errors).items() if inspect.isclass(value)}
        self.assertEqual(found, set(ATTRIBUTES) | {"SplitError"})

    def test_what_they_are_below(self):
        self.assertEqual(errors.SplitError.__bases__, (ValueError,))
        for name in ATTRIBUTES:
            with self.subTest(name=name):
                self.assertEqual(getattr(errors, name).__bases__, (errors.SplitError,))
                self.assertEqual(getattr(errors, name).__module__, "splitbooks.errors")

    def test_attributes_by_position_and_by_name(self):
        for name, attribute in ATTRIBUTES.items():
            if attribute is None:
                continue
            kind = getattr(errors, name)
            for value in VALUES:
                with self.subTest(name=name):
                    self.assertIs(getattr(kind(value), attribute), value)
                    self.assertIs(getattr(kind(**{attribute: value}), attribute), value)
                    self.assertIsInstance(str(kind(value)), str)
                    self.assertIsInstance(repr(kind(**{attribute: value})), str)
            with self.assertRaises(TypeError):
                kind()
            with self.assertRaises(TypeError):
                kind(1, 2)
            self.assertEqual([key for key in vars(kind(1))], [attribute])

    def test_messages(self):
        for name, attribute in ATTRIBUTES.items():
            if attribute is None:
                with self.subTest(name=name):
                    error = getattr(errors, name)("so it is")
                    self.assertEqual(str(error), "so it is")
                    self.assertEqual(vars(error), {})
        self.assertEqual(str(errors.SplitError("so it is")), "so it is")

    def test_caught_by_what_they_are_below(self):
        for name, attribute in ATTRIBUTES.items():
            for kind in (getattr(errors, name), errors.SplitError, ValueError):
                with self.subTest(name=name, kind=kind), self.assertRaises(kind):
                    raise getattr(errors, name)("word")

    def test_copied_with_attribute(self):
        for name, attribute in ATTRIBUTES.items():
            if attribute is not None:
                self.assertEqual(getattr(copy.copy(getattr(errors, name)((1, 2))), attribute), (1, 2))


if __name__ == "__main__":
    unittest.main()
