import unittest

from goaltrail.program import program_of
from goaltrail.signs import first_signs
from tests.helper import A, B, X, assert_refused, n, nested, rules_of, t, v

Y = v("Y")
KEEP = t("keep")


class ProgramCase(unittest.TestCase):
    def assert_program(self, text, marks, rules):
        with self.subTest(text):
            told = program_of(text)
            self.assertIs(told.__class__, tuple)
            self.assertEqual(len(told), 2)
            self.assertEqual(told[0], {**first_signs(), **marks})
            self.assertEqual(told[1], rules)
            self.assertIs(told[0].__class__, dict)
            self.assertIs(told[1].__class__, list)
            for one in told[1]:
                self.assertIs(one.__class__, tuple)
                self.assertIs(one[1].__class__, tuple)

    def assert_wrong(self, name, row, text):
        with self.subTest(text):
            assert_refused(self, name, program_of, text, row=row)


class Rows(ProgramCase):
    def test_no_rows_and_blanks_alone(self):
        for text in ("", " ", "     ", "\n", "\n\n\n", " \n  \n", "  \n"):
            self.assert_program(text, {}, [])

    def test_rules_in_their_order(self):
        text = "p(a)\np(X) <- q(X), X = Y, keep\nq(b)"
        rules = [(t("p", A), ()), (t("p", X), (t("q", X), t("=", X, Y), KEEP)), (t("q", B), ())]
        self.assert_program(text, {}, rules)

    def test_rows_left_out(self):
        rules = [(A, ()), (B, (A,))]
        for text in ("a\nb <- a", "a\n\nb <- a", "\n\na\n   \nb <- a\n", " \n  a  \n \n  b<-a  \n\n ", "a\nb <- a\n"):
            self.assert_program(text, {}, rules)

    def test_the_same_rule_twice(self):
        self.assert_program("a\na", {}, [(A, ()), (A, ())])

    def test_each_kind_of_goal(self):
        text = "p(X) <- q(X), not(q(a)), X = Y, Y := X + 1, X < Y, X <= Y"
        goals = (t("q", X), t("not", t("q", A)), t("=", X, Y), t(":=", Y, t("+", X, n(1))), t("<", X, Y), t("<=", X, Y))
        self.assert_program(text, {}, [(t("p", X), goals)])

    def test_one_rule_is_one_row(self):
        self.assert_wrong("NoText", 1, "a <-\nb")
        self.assert_wrong("NoText", 2, "a <- b\n, c")
        self.assert_wrong("NoText", 1, "p(a,\nb)")


class Marks(ProgramCase):
    def test_a_mark_holds_for_the_rows_behind(self):
        self.assert_program("infix ^ 5 right\np(a ^ b)", {"^": (5, "right")}, [(t("p", t("^", A, B)), ())])
        self.assert_wrong("NoText", 1, "p(a ^ b)\ninfix ^ 5 right")
        self.assert_wrong("NoText", 2, "a\np(a ^ b)\ninfix ^ 5 right\np(a ^ b)")
        self.assert_program("a\ninfix ^ 5 right\n\np(a ^ b)\nb", {"^": (5, "right")},
                            [(A, ()), (t("p", t("^", A, B)), ()), (B, ())])

    def test_its_rank_and_its_side_hold(self):
        left = t("p", t("@", t("@", A, B), A))
        right = t("p", t("@", A, t("@", B, A)))
        self.assert_program("infix @ 5 left\np(a @ b @ a)", {"@": (5, "left")}, [(left, ())])
        self.assert_program("infix @ 5 right\np(a @ b @ a)", {"@": (5, "right")}, [(right, ())])
        self.assert_wrong("NoText", 2, "infix @ 5 none\np(a @ b @ a)")
        self.assert_program("infix @ 9 left\np(a @ b * a)", {"@": (9, "left")},
                            [(t("p", t("@", A, t("*", B, A))), ())])
        self.assert_program("infix @ 7 left\np(a @ b * a)", {"@": (7, "left")},
                            [(t("p", t("*", t("@", A, B), A)), ())])

    def test_each_side_and_the_least_and_greatest_rank(self):
        for side in ("left", "right", "none"):
            for rank in (1, 2, 9, 19, 20):
                self.assert_program(f"infix >>> {rank} {side}", {">>>": (rank, side)}, [])

    def test_several_marks(self):
        text = "infix & 12 right\ninfix && 12 right\ninfix ! 3 none"
        self.assert_program(text, {"&": (12, "right"), "&&": (12, "right"), "!": (3, "none")}, [])

    def test_blanks_ahead_between_and_behind(self):
        for text in ("   infix ^ 5 right", "infix   ^  5    right", "infix ^ 5 right   ", "  infix  ^  5  right  "):
            self.assert_program(text, {"^": (5, "right")}, [])

    def test_fewer_or_more_words(self):
        for row in ("infix", "  infix  ", "infix ^", "infix ^ 5", "infix ^ 5 right left", "infix ^ 5 right 5",
                    "infix ^5 right",
                    "infix ^ 5right", "infix ^ 5 right <- a", "infix (a)", "infix <- a", "infix , a",
                    "infix ^ 5 , right"):
            self.assert_wrong("NoSign", 1, row)
            self.assert_wrong("NoSign", 3, "a\n\n" + row + "\nb")

    def test_what_is_no_mark_or_stands_already(self):
        for mark in ("<-", "a", "A", "+-+-", "^^^^", "_", "(", "[]", "5", "~", ",", "|", ".", "^a", "=", ":=", "<",
                     "<=", "+",
                     "-", "*", "/", "/:", "infix", "\u00d7"):
            self.assert_wrong("NoSign", 1, f"infix {mark} 5 right")
        self.assert_wrong("NoSign", 2, "infix ^ 5 right\ninfix ^ 5 right")
        self.assert_wrong("NoSign", 3, "infix ^ 5 right\na\ninfix ^ 6 left")

    def test_what_is_no_rank(self):
        for rank in ("0", "21", "22", "100", "05", "00", "005", "020", "~5", "~1", "-5", "+5", "5.0", "a", "X", "1a",
                     "1_0", "five",
                     "0x5", "\u0665", "\u00b2", "\uff15", "9" * 30, "9" * 31, "0" * 31, "1" * 5000, "(5)", "5,"):
            self.assert_wrong("NoSign", 1, f"infix ^ {rank} right")

    def test_what_is_no_side(self):
        for side in ("Left", "RIGHT", "l", "middle", "0", "lefts", "no", "(left)", "left,", "None", "\u2190"):
            self.assert_wrong("NoSign", 1, f"infix ^ 5 {side}")

    def test_a_rank_whose_marks_have_another_side(self):
        self.assert_wrong("NoSign", 1, "infix ^ 10 right")
        self.assert_wrong("NoSign", 1, "infix ^ 15 left")
        self.assert_wrong("NoSign", 2, "infix ^ 5 right\ninfix ^^ 5 left")
        self.assert_program("infix ^ 10 left", {"^": (10, "left")}, [])

    def test_infix_as_the_beginning_of_a_longer_word(self):
        self.assert_program("infixes(a)", {}, [(t("infixes", A), ())])
        self.assert_program("infixa <- a", {}, [(t("infixa"), (A,))])
        self.assert_program("infix5", {}, [(t("infix5"), ())])

    def test_the_word_infix_in_a_rule(self):
        self.assert_program("infix(a)", {}, [(t("infix", A), ())])
        self.assert_program("  infix(a) <- b", {}, [(t("infix", A), (B,))])
        self.assert_program("infix<-a", {}, [(t("infix"), (A,))])
        self.assert_program("(infix)", {}, [(t("infix"), ())])
        self.assert_program("a <- infix", {}, [(A, (t("infix"),))])
        self.assert_program("p(infix, a)", {}, [(t("p", t("infix"), A), ())])

    def test_a_tab_parts_no_words(self):
        for row in ("infix\t^ 5 right", "\tinfix ^ 5 right", "infix\t^\t5\tright"):
            self.assert_wrong("NoText", 1, row)
        for row in ("infix ^\t5 right", "infix ^ 5 right\t", "infix ^ 5 right\r", "infix ^ 5\u00a0right"):
            self.assert_wrong("NoSign", 1, row)


class Refused(ProgramCase):
    def test_rows_that_can_not_be_read(self):
        for row in ("p(", "p(a", "a b", "a <-", "<- a", "a <- b,", "a <- , b", "a, b", "f()", "_", "\t", "a\t", "\r",
                    "a\r", "a ^ b",
                    "abcdefghijklm", "p(a, b, c, d, e)", "05", "~0", "a <- b <- c", "a.",
                    "p(" + "f(" * 39 + "a" + ")" * 39 + ")", "\x0b", "\u2028", "a\x0cb"):
            self.assert_wrong("NoText", 1, row)
            self.assert_wrong("NoText", 4, "a\n\n  \n" + row)
            self.assert_wrong("NoText", 2, "a\n" + row + "\nb\n")

    def test_rows_that_are_no_rules(self):
        for row in ("X", "5", "[]", "[a]", "a + b", "a = b", "a := 1", "1 < 2", "1 <= 2", "keep", "keep(a)", "not(a)",
                    "not",
                    "not(a, b)", "X <- a", "5 <- a", "keep <- a", "not(a) <- b", "a <- X", "a <- 5", "a <- []",
                    "a <- b + c",
                    "a <- keep(b)", "a <- not", "a <- not(b, c)", "a <- not(not(b))", "a <- not(keep)", "a <- not(X)",
                    "a <- not(b = c)", "a <- b, [c]", "a <- b, b, b, b, b, b, b",
                    "f(" * 24 + "a" + ")" * 24, "a <- " + "f(" * 24 + "a" + ")" * 24,
                    "a <- not(" + "f(" * 23 + "a" + ")" * 24):
            self.assert_wrong("NoRule", 1, row)
            self.assert_wrong("NoRule", 3, "\na\n" + row + "\nb")

    def test_bounds_that_are_kept(self):
        deep = "f(" * 23 + "a" + ")" * 23
        self.assert_program(deep, {}, [(nested(24), ())])
        self.assert_program(f"a <- {deep}", {}, [(A, (nested(24),))])
        self.assert_program("a <- b, b, b, b, b, b", {}, [(A, (B,) * 6)])

    def test_a_row_that_is_no_text_and_no_rule_is_no_text(self):
        self.assert_wrong("NoText", 1, "X <- a,")
        self.assert_wrong("NoText", 1, "5 _")
        self.assert_wrong("NoText", 1, "a <- b, b, b, b, b, b, b, ")

    def test_the_first_row_that_is_wrong(self):
        self.assert_wrong("NoText", 1, "p(\nX\ninfix")
        self.assert_wrong("NoRule", 1, "X\np(\ninfix")
        self.assert_wrong("NoSign", 1, "infix\nX\np(")
        self.assert_wrong("NoSign", 4, "a\n\nb <- a\ninfix ^ 0 left\nX\np(")
        self.assert_wrong("NoRule", 2, "a\nX\n\ninfix")
        self.assert_wrong("NoText", 5, "\n\n\n \np(\nX")

    def test_forty_rules_and_the_forty_first(self):
        forty = "\n".join(f"p({k})" for k in range(40))
        rules = [(t("p", n(k)), ()) for k in range(40)]
        self.assert_program(forty, {}, rules)
        self.assert_program(forty + "\n\n  \n", {}, rules)
        self.assert_program(forty + "\ninfix ^ 5 right", {"^": (5, "right")}, rules)
        self.assert_program("\n\n" + forty, {}, rules)
        self.assert_wrong("NoRule", 41, forty + "\na")
        self.assert_wrong("NoRule", 43, forty + "\n\n\na")
        self.assert_wrong("NoRule", 42, forty + "\ninfix ^ 5 right\np(a ^ b)\np(")
        self.assert_wrong("NoRule", 41, forty + "\nX")
        self.assert_wrong("NoText", 41, forty + "\np(\na")
        self.assert_wrong("NoSign", 41, forty + "\ninfix\na")
        self.assert_wrong("NoRule", 1, "X\n" + forty + "\na")

    def test_rows_beyond_forty(self):
        text = "\n" * 500 + "a\n" + "infix ^ 5 right\n" + " \n" * 100
        self.assert_program(text, {"^": (5, "right")}, [(A, ())])
        self.assert_wrong("NoText", 603, text + "p(")


class Everywhere(unittest.TestCase):
    def test_what_is_given_is_the_askers_own(self):
        for text in ("", "a", "infix ^ 5 right\na <- b"):
            first = program_of(text)
            first[0]["?"] = (1, "left")
            first[1].append((B, ()))
            second = program_of(text)
            self.assertNotIn("?", second[0])
            self.assertEqual(second[1], rules_of(*[row for row in text.split("\n") if row and "infix" not in row]))
        self.assertNotIn("?", first_signs())

    def test_the_same_question_has_the_same_answer(self):
        text = "infix ^ 5 right\np(a ^ X) <- q(X)\nq(a)"
        self.assertEqual(program_of(text), program_of(text))


if __name__ == "__main__":
    unittest.main()
