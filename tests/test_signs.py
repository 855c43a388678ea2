import copy
import unittest

from goaltrail.signs import first_signs, with_sign
from tests.helper import assert_refused

NINE = {
    "=": (15, "none"),
    ":=": (15, "none"),
    "<": (15, "none"),
    "<=": (15, "none"),
    "+": (10, "left"),
    "-": (10, "left"),
    "*": (8, "left"),
    "/": (8, "left"),
    "/:": (8, "left"),
}


class FirstSigns(unittest.TestCase):
    def test_the_nine(self):
        self.assertEqual(first_signs(), NINE)
        self.assertIs(first_signs().__class__, dict)
        for told in first_signs().values():
            self.assertIs(told.__class__, tuple)

    def test_the_table_given_is_the_askers_own(self):
        table = first_signs()
        table["#"] = (1, "left")
        table["="] = (1, "right")
        self.assertEqual(first_signs(), NINE)
        other = first_signs()
        other.clear()
        self.assertEqual(first_signs(), NINE)


class WithSign(unittest.TestCase):
    def assert_no_sign(self, table, mark, rank, side):
        with self.subTest(mark=mark, rank=rank, side=side):
            before = copy.deepcopy(table)
            assert_refused(self, "NoSign", with_sign, table, mark, rank, side)
            self.assertEqual(table, before)

    def test_a_mark_told(self):
        self.assertEqual(with_sign(first_signs(), "#", 12, "right"), {**NINE, "#": (12, "right")})
        self.assertIs(with_sign(first_signs(), "#", 12, "right").__class__, dict)
        self.assertIs(with_sign(first_signs(), "#", 12, "right")["#"].__class__, tuple)

    def test_every_free_rank_with_every_side(self):
        for rank in range(1, 21):
            if rank not in (8, 10, 15):
                for side in ("left", "right", "none"):
                    with self.subTest(rank=rank, side=side):
                        self.assertEqual(with_sign(first_signs(), "->", rank, side), {**NINE, "->": (rank, side)})

    def test_a_rank_that_has_marks_takes_their_side_alone(self):
        for rank, side in ((8, "left"), (10, "left"), (15, "none")):
            for other in ("left", "right", "none"):
                if other == side:
                    self.assertEqual(with_sign(first_signs(), "@", rank, side), {**NINE, "@": (rank, side)})
                else:
                    self.assert_no_sign(first_signs(), "@", rank, other)

    def test_a_rank_whose_side_was_told_later(self):
        for side in ("left", "right", "none"):
            table = with_sign(first_signs(), "@", 3, side)
            for other in ("left", "right", "none"):
                if other == side:
                    self.assertEqual(with_sign(table, "#", 3, other), {**NINE, "@": (3, side), "#": (3, other)})
                else:
                    self.assert_no_sign(table, "#", 3, other)

    def test_marks_of_every_form(self):
        for mark in ("!", "?", "$$", "<--", "-<-", "<<-", "::=", "=>", ";", "&&&", "^", "-<"):
            with self.subTest(mark):
                self.assertEqual(with_sign(first_signs(), mark, 1, "right"), {**NINE, mark: (1, "right")})

    def test_what_is_no_mark(self):
        for mark in ("", "<-", "++++", "<---", "a", "X", "f1", "1", "~", "_", "+a", "a+", "+ ", " +", "+_+", "[]",
                     "[|]", "|", ",", "(", "%", ".", "\t", "+\n", "\u00e4", "\u00d7"):
            self.assert_no_sign(first_signs(), mark, 12, "left")

    def test_a_mark_that_stands_already(self):
        for mark, (rank, side) in NINE.items():
            self.assert_no_sign(first_signs(), mark, rank, side)
            self.assert_no_sign(first_signs(), mark, 3, "right")
        table = with_sign(first_signs(), "#", 12, "right")
        self.assert_no_sign(table, "#", 12, "right")
        self.assert_no_sign(table, "#", 4, "left")

    def test_what_is_no_rank(self):
        for rank in (0, 21, 22, 100, -1, -8, -20, True, False, "8", "12", "", None, 12.0, 10 ** 29):
            self.assert_no_sign(first_signs(), "#", rank, "left")

    def test_the_least_and_the_greatest_rank(self):
        self.assertEqual(with_sign(first_signs(), "#", 1, "none")["#"], (1, "none"))
        self.assertEqual(with_sign(first_signs(), "#", 20, "none")["#"], (20, "none"))

    def test_what_is_no_side(self):
        for side in ("", "Left", "LEFT", "lef", "leftright", "both", "non", "None", " left", None, 0, 1, True):
            self.assert_no_sign(first_signs(), "#", 12, side)
            self.assert_no_sign(first_signs(), "#", 10, side)

    def test_the_table_handed_in_stays(self):
        table = first_signs()
        with_sign(table, "#", 12, "right")
        self.assertEqual(table, NINE)

    def test_the_table_given_is_the_askers_own(self):
        table = first_signs()
        one = with_sign(table, "#", 12, "right")
        other = with_sign(one, "@", 13, "left")
        one["&"] = (1, "left")
        self.assertEqual(table, NINE)
        self.assertEqual(other, {**NINE, "#": (12, "right"), "@": (13, "left")})
        other.clear()
        self.assertEqual(one, {**NINE, "#": (12, "right"), "&": (1, "left")})
        self.assertEqual(first_signs(), NINE)

    def test_the_table_given_stays_when_the_one_handed_in_is_changed(self):
        table = first_signs()
        told = with_sign(table, "#", 12, "right")
        table["@"] = (3, "left")
        self.assertEqual(told, {**NINE, "#": (12, "right")})

    def test_the_same_question_has_the_same_answer(self):
        for again in range(3):
            self.assertEqual(with_sign(first_signs(), "#", 12, "right"), {**NINE, "#": (12, "right")})
            self.assert_no_sign(first_signs(), "#", 8, "right")


if __name__ == "__main__":
    unittest.main()
