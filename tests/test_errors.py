import unittest

from goaltrail import errors
from tests.helper import REFUSALS


class ErrorClasses(unittest.TestCase):
    def test_trail_error_stands_under_value_error(self):
        self.assertEqual(errors.TrailError.__bases__, (ValueError,))

    def test_each_refusal_stands_under_trail_error_and_none_under_another(self):
        for name in REFUSALS:
            with self.subTest(name):
                kind = getattr(errors, name)
                self.assertTrue(issubclass(kind, errors.TrailError))
                for other in REFUSALS:
                    self.assertEqual(issubclass(kind, getattr(errors, other)), other == name)

    def test_trail_error_itself_stands_under_no_refusal(self):
        for name in REFUSALS:
            self.assertFalse(issubclass(errors.TrailError, getattr(errors, name)))


class ErrorFields(unittest.TestCase):
    def test_row_is_nought_where_none_is_told(self):
        for name in ("TrailError", "NoText", "NoSign", "NoRule", "Big", "HasKeep"):
            with self.subTest(name):
                error = getattr(errors, name)("some words")
                self.assertEqual(error.row, 0)
                self.assertEqual(str(error), "some words")

    def test_row_is_the_one_told(self):
        for name in ("TrailError", "NoText", "NoSign", "NoRule", "Big", "HasKeep"):
            with self.subTest(name):
                self.assertEqual(getattr(errors, name)("some words", 7).row, 7)

    def test_not_layered_has_its_ring_and_row(self):
        error = errors.NotLayered([("p", 1), ("q", 0)])
        self.assertEqual(error.ring, [("p", 1), ("q", 0)])
        self.assertEqual(error.row, 0)
        self.assertEqual(errors.NotLayered([("p", 1)], 3).row, 3)

    def test_the_ring_told_stays_when_the_one_handed_in_is_changed(self):
        ring = [("p", 1)]
        error = errors.NotLayered(ring)
        ring.append(("q", 2))
        self.assertEqual(error.ring, [("p", 1)])
        error.ring.append(("r", 0))
        self.assertEqual(ring, [("p", 1), ("q", 2)])

    def test_fault_has_its_word_and_row(self):
        for word in ("open", "kind", "nought", "far"):
            with self.subTest(word):
                error = errors.Fault(word)
                self.assertEqual(error.word, word)
                self.assertEqual(error.row, 0)
        self.assertEqual(errors.Fault("far", 4).row, 4)

    def test_fields_belong_to_each_object(self):
        one = errors.NoText("words", 1)
        other = errors.NoText("words", 2)
        self.assertEqual((one.row, other.row), (1, 2))


class Raised(unittest.TestCase):
    def test_each_is_taken_as_itself_as_trail_error_and_as_value_error(self):
        for name in REFUSALS:
            kind = getattr(errors, name)
            argument = [("p", 0)] if name == "NotLayered" else "open"
            for taken in (kind, errors.TrailError, ValueError):
                with self.subTest(name=name, taken=taken.__name__):
                    with self.assertRaises(taken):
                        raise kind(argument)


if __name__ == "__main__":
    unittest.main()
