import unittest

from goaltrail.words import pieces
from tests.helper import assert_refused

SMALL = "abcdefghijklmnopqrstuvwxyz"
GREAT = SMALL.upper()
FIGURES = "0123456789"
MARK_SIGNS = "+-*/:<=>&^?@#!;$"
SINGLE_SIGNS = "()[],|"


def cut(text):
    """The pieces' texts alone."""
    return [piece for kind, piece in pieces(text)]


class Kinds(unittest.TestCase):
    def test_each_kind(self):
        self.assertEqual(pieces("abC1"), [("word", "abC1")])
        self.assertEqual(pieces("AbC1"), [("name", "AbC1")])
        self.assertEqual(pieces("105"), [("num", "105")])
        self.assertEqual(pieces("~105"), [("num", "~105")])
        self.assertEqual(pieces(":="), [("mark", ":=")])
        self.assertEqual(pieces("<-"), [("sign", "<-")])
        for sign in SINGLE_SIGNS:
            self.assertEqual(pieces(sign), [("sign", sign)])

    def test_every_ascii_sign_alone(self):
        for code in range(128):
            sign = chr(code)
            with self.subTest(sign):
                if sign == " ":
                    self.assertEqual(pieces(sign), [])
                elif sign in SMALL:
                    self.assertEqual(pieces(sign), [("word", sign)])
                elif sign in GREAT:
                    self.assertEqual(pieces(sign), [("name", sign)])
                elif sign in FIGURES:
                    self.assertEqual(pieces(sign), [("num", sign)])
                elif sign in MARK_SIGNS:
                    self.assertEqual(pieces(sign), [("mark", sign)])
                elif sign in SINGLE_SIGNS:
                    self.assertEqual(pieces(sign), [("sign", sign)])
                else:
                    assert_refused(self, "NoText", pieces, sign)

    def test_a_row_of_all_kinds(self):
        self.assertEqual(pieces("f(X, ~5) <- [a|T], 1+-2"), [
            ("word", "f"), ("sign", "("), ("name", "X"), ("sign", ","), ("num", "~5"), ("sign", ")"), ("sign", "<-"),
            ("sign", "["), ("word", "a"), ("sign", "|"), ("name", "T"), ("sign", "]"), ("sign", ","), ("num", "1"),
            ("mark", "+-"), ("num", "2")])

    def test_pieces_are_pairs_in_a_list(self):
        told = pieces("a X 1 ~1 + ( <-")
        self.assertIs(told.__class__, list)
        for piece in told:
            self.assertIs(piece.__class__, tuple)
            self.assertEqual(len(piece), 2)

    def test_no_pieces(self):
        self.assertEqual(pieces(""), [])
        self.assertEqual(pieces(" "), [])
        self.assertEqual(pieces("      "), [])


class AsLongAsTheyCanBe(unittest.TestCase):
    def test_letters_and_figures(self):
        self.assertEqual(pieces("aX1bY2"), [("word", "aX1bY2")])
        self.assertEqual(pieces("Xa1Yb2"), [("name", "Xa1Yb2")])
        self.assertEqual(pieces("a1 1"), [("word", "a1"), ("num", "1")])
        self.assertEqual(pieces("a0"), [("word", "a0")])
        self.assertEqual(pieces("A00"), [("name", "A00")])

    def test_mark_signs(self):
        self.assertEqual(pieces("1+-2"), [("num", "1"), ("mark", "+-"), ("num", "2")])
        self.assertEqual(pieces("a:=b"), [("word", "a"), ("mark", ":="), ("word", "b")])
        self.assertEqual(pieces("+ -"), [("mark", "+"), ("mark", "-")])

    def test_every_two_mark_signs(self):
        for one in MARK_SIGNS:
            for two in MARK_SIGNS:
                kind = "sign" if one + two == "<-" else "mark"
                self.assertEqual(pieces(one + two), [(kind, one + two)])
                self.assertEqual(pieces(one + " " + two), [("mark", one), ("mark", two)])

    def test_the_arrow_and_runs_with_it(self):
        self.assertEqual(pieces("<-"), [("sign", "<-")])
        self.assertEqual(pieces("<--"), [("mark", "<--")])
        self.assertEqual(pieces("-<-"), [("mark", "-<-")])
        self.assertEqual(pieces("<<-"), [("mark", "<<-")])
        self.assertEqual(pieces("<-<-"), [("mark", "<-<-")])
        self.assertEqual(pieces("<- <-"), [("sign", "<-"), ("sign", "<-")])
        self.assertEqual(pieces("< -"), [("mark", "<"), ("mark", "-")])
        self.assertEqual(pieces("a<-b"), [("word", "a"), ("sign", "<-"), ("word", "b")])
        self.assertEqual(pieces("<-~5"), [("sign", "<-"), ("num", "~5")])
        self.assertEqual(pieces("(<-)"), [("sign", "("), ("sign", "<-"), ("sign", ")")])

    def test_single_signs_stay_single(self):
        self.assertEqual(cut("(("), ["(", "("])
        self.assertEqual(cut("[]"), ["[", "]"])
        self.assertEqual(cut("[|]"), ["[", "|", "]"])
        self.assertEqual(cut(",,||))"), [",", ",", "|", "|", ")", ")"])

    def test_nothing_between(self):
        self.assertEqual(pieces("a~5"), [("word", "a"), ("num", "~5")])
        self.assertEqual(pieces("5~5"), [("num", "5"), ("num", "~5")])
        self.assertEqual(pieces("~5~5"), [("num", "~5"), ("num", "~5")])
        self.assertEqual(pieces("X~5"), [("name", "X"), ("num", "~5")])
        self.assertEqual(pieces("+~5"), [("mark", "+"), ("num", "~5")])
        self.assertEqual(pieces("~5+~5"), [("num", "~5"), ("mark", "+"), ("num", "~5")])
        self.assertEqual(pieces("0~5"), [("num", "0"), ("num", "~5")])
        self.assertEqual(cut("f(a,X)=[1|T]"), ["f", "(", "a", ",", "X", ")", "=", "[", "1", "|", "T", "]"])

    def test_blanks_ahead_between_and_behind(self):
        for text in ("a+b", " a+b", "a+b ", "a +b", "a+ b", "a + b", "   a   +   b   "):
            with self.subTest(text):
                self.assertEqual(pieces(text), [("word", "a"), ("mark", "+"), ("word", "b")])
        self.assertEqual(pieces("a b"), [("word", "a"), ("word", "b")])
        self.assertEqual(pieces("1 2"), [("num", "1"), ("num", "2")])
        self.assertEqual(pieces("a ~5"), [("word", "a"), ("num", "~5")])

    def test_how_long_words_names_and_marks_are_is_not_looked_at(self):
        for long in (12, 13, 14, 100, 1000):
            with self.subTest(long):
                self.assertEqual(pieces("a" * long), [("word", "a" * long)])
                self.assertEqual(pieces("A" * long), [("name", "A" * long)])
                self.assertEqual(pieces("a" + "1" * long), [("word", "a" + "1" * long)])
        for long in (1, 2, 3, 4, 5, 100, 1000):
            with self.subTest(long):
                self.assertEqual(pieces("+" * long), [("mark", "+" * long)])


class Numbers(unittest.TestCase):
    def test_up_to_thirty_figures(self):
        for text in ("0", "1", "9", "10", "100", "907", "1" * 29, "1" * 30, "9" * 30, "1" + "0" * 29):
            with self.subTest(text):
                self.assertEqual(pieces(text), [("num", text)])
                if text != "0":
                    self.assertEqual(pieces("~" + text), [("num", "~" + text)])

    def test_more_than_thirty_figures(self):
        for long in (31, 32, 60, 100):
            for text in ("1" * long, "~" + "1" * long, "1" + "0" * (long - 1), "a+" + "9" * long):
                assert_refused(self, "NoText", pieces, text)

    def test_a_nought_ahead(self):
        for text in ("00", "05", "007", "0123", "000", "~0", "~00", "~05", "~007", "a + 05", "f(00)", "5~05", "1 ~0"):
            with self.subTest(text):
                assert_refused(self, "NoText", pieces, text)

    def test_figures_with_a_letter(self):
        for text in ("1a", "5X", "10a1", "0a", "0X", "~5a", "~1X", "1a2", "a + 1b", "9" * 30 + "a"):
            with self.subTest(text):
                assert_refused(self, "NoText", pieces, text)

    def test_a_sign_below_nought_without_a_number_right_behind(self):
        for text in ("~", "~ 5", "~a", "~X", "~~5", "5~", "a~", "~+5", "~(5)", "~-5", "~ ", "~,", "5 ~ 5", "~~"):
            with self.subTest(text):
                assert_refused(self, "NoText", pieces, text)


class Refused(unittest.TestCase):
    SIGNS_OUT = "_\t\n\r\x0b\x0c\x00\x7f'\"{}.%\\`"

    def test_signs_that_no_piece_has(self):
        for sign in self.SIGNS_OUT:
            for text in (sign, sign + "a", "a" + sign, "a" + sign + "b", "a " + sign + " b", "X" + sign, "1" + sign,
                         "+" + sign + "+", "(" + sign + ")", " " + sign):
                with self.subTest(text):
                    assert_refused(self, "NoText", pieces, text)

    def test_signs_that_are_not_ascii(self):
        for sign in "\u00e4\u00c4\u00e9\u03b1\u0663\u00b2\u2160\uff11\uff41\u00a0\u2003\u2212\u00d7\u2028\u0085":
            for text in (sign, "a" + sign, sign + "a", "1" + sign, "X" + sign + "Y", "a " + sign + " b", "~" + sign):
                with self.subTest(text):
                    assert_refused(self, "NoText", pieces, text)


class Everywhere(unittest.TestCase):
    def test_the_list_is_the_askers_own(self):
        told = pieces("a + b")
        told.append(("word", "c"))
        told[0] = ("num", "1")
        self.assertEqual(pieces("a + b"), [("word", "a"), ("mark", "+"), ("word", "b")])
        empty = pieces("")
        empty.append(("word", "c"))
        self.assertEqual(pieces(""), [])

    def test_long_texts(self):
        self.assertEqual(len(pieces("a, " * 2000)), 4000)
        self.assertEqual(len(pieces("(" * 3000)), 3000)


if __name__ == "__main__":
    unittest.main()
