"""[4]: the refusals."""

import unittest

from leanscript import errors

ALL = ("NoText", "NoTree", "NoPath", "NoNaming", "NoLetters", "NoCount", "NoTurning", "NoMap", "NoLine", "TooMany")
WITHOUT_FIELDS = ("NoPath", "NoLetters", "NoCount", "NoTurning", "NoMap", "NoLine", "TooMany")


class Refusals(unittest.TestCase):

    def test_each_stands_straight_under_lean_error(self):
        self.assertEqual(errors.LeanError.__bases__, (ValueError,))
        for word in ALL:
            self.assertEqual(getattr(errors, word).__bases__, (errors.LeanError,), word)

    def test_each_is_defined_in_this_file(self):
        for word in ("LeanError", *ALL):
            self.assertEqual(getattr(errors, word).__module__, "leanscript.errors", word)

    def test_each_is_made_of_nothing(self):
        for word in ("LeanError", *ALL):
            self.assertIsInstance(getattr(errors, word)(), ValueError)

    def test_those_without_fields_are_made_of_one_text(self):
        for word in ("LeanError", *WITHOUT_FIELDS):
            self.assertEqual(str(getattr(errors, word)("some text")), "some text")

    def test_fields_where_none_are_handed_in(self):
        self.assertEqual(errors.NoText().at, 0)
        self.assertEqual((errors.NoTree().path, errors.NoTree().why), ((), ""))
        self.assertIsNone(errors.NoNaming().one)
        self.assertIsNone(errors.NoNaming().other)

    def test_fields_by_places(self):
        self.assertEqual(errors.NoText(7).at, 7)
        one = errors.NoTree((1, 2), "kind")
        self.assertEqual((one.path, one.why), ((1, 2), "kind"))
        self.assertEqual((errors.NoTree((3,)).path, errors.NoTree((3,)).why), ((3,), ""))
        other = errors.NoNaming(3, "ab")
        self.assertEqual((other.one, other.other), (3, "ab"))
        self.assertEqual((errors.NoNaming(3).one, errors.NoNaming(3).other), (3, None))

    def test_fields_by_names(self):
        self.assertEqual(errors.NoText(at=7).at, 7)
        one = errors.NoTree(why="set", path=(4,))
        self.assertEqual((one.path, one.why), ((4,), "set"))
        self.assertEqual((errors.NoTree(why="set").path, errors.NoTree(why="set").why), ((), "set"))
        other = errors.NoNaming(other=5, one=2)
        self.assertEqual((other.one, other.other), (2, 5))
        self.assertEqual((errors.NoNaming(other=5).one, errors.NoNaming(other=5).other), (None, 5))

    def test_each_is_caught_as_lean_error(self):
        for word in ALL:
            with self.assertRaises(errors.LeanError):
                raise getattr(errors, word)()


if __name__ == "__main__":
    unittest.main()
