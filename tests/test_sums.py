import itertools
import random
import unittest
from fractions import Fraction

from goaltrail.sums import reckoned
from tests.helper import A, B, NIL, X, assert_refused, cons, listed, n, t, term_of, v

FAR = 10 ** 30
Y = v("Y")


def rounded_down(fraction):
    """The greatest whole number that is not above a fraction, in the plainest way."""
    low = 0
    while low > fraction:
        low -= 1
    while low + 1 <= fraction:
        low += 1
    return low


class Met(Exception):
    pass


def slowly_reckoned(term):
    """The number, or Met with the fault's word, the numbers' texts being measured."""
    if term[0] == "any":
        raise Met("open")
    if term[0] == "num":
        return term[1]
    if term[1] not in ("+", "-", "*", "/", "/:"):
        raise Met("kind")
    left, right = slowly_reckoned(term[2][0]), slowly_reckoned(term[2][1])
    if term[1] in ("/", "/:") and right == 0:
        raise Met("nought")
    if term[1] in ("/", "/:"):
        times = Fraction(left, right).__floor__()
        told = times if term[1] == "/" else left - times * right
    else:
        told = {"+": left + right, "-": left - right, "*": left * right}[term[1]]
    if len(str(abs(told))) > 30:
        raise Met("far")
    return told


class Sums(unittest.TestCase):
    def assert_sum(self, term, number):
        told = reckoned(term_of(term) if isinstance(term, str) else term)
        self.assertEqual(told, number, term)
        self.assertIs(told.__class__, int)

    def assert_fault(self, term, word):
        with self.subTest(term=term):
            error = assert_refused(self, "Fault", reckoned, term_of(term) if isinstance(term, str) else term)
            self.assertEqual(error.word, word)


class Reckoned(Sums):
    def test_numbers(self):
        for number in (0, 1, -1, 77, -77, FAR - 1, 1 - FAR):
            self.assert_sum(n(number), number)

    def test_above_and_below_nought(self):
        for left, right in itertools.product(range(-9, 10), repeat=2):
            self.assert_sum(t("+", n(left), n(right)), left + right)
            self.assert_sum(t("-", n(left), n(right)), left - right)
            self.assert_sum(t("*", n(left), n(right)), left * right)
            if right:
                times = rounded_down(Fraction(left, right))
                self.assert_sum(t("/", n(left), n(right)), times)
                self.assert_sum(t("/:", n(left), n(right)), left - times * right)

    def test_rounded_down_by_hand(self):
        for text, number in (("7 / 2", 3), ("~7 / 2", -4), ("7 / ~2", -4), ("~7 / ~2", 3), ("7 /: 2", 1),
                             ("~7 /: 2", 1),
                             ("7 /: ~2", -1), ("~7 /: ~2", -1), ("6 / ~3", -2), ("6 /: ~3", 0), ("~6 /: 3", 0),
                             ("0 / 5", 0), ("0 /: ~5", 0), ("1 / 5", 0), ("~1 / 5", -1), ("~1 /: 5", 4),
                             ("1 /: ~5", -4)):
            self.assert_sum(text, number)

    def test_great_ones_exactly(self):
        left, right = FAR - 1, 10 ** 15 + 7
        self.assert_sum(t("/", n(left), n(right)), left // right)
        self.assert_sum(t("/:", n(left), n(right)), left - (left // right) * right)
        self.assert_sum(t("/", n(-left), n(3)), -(left // 3))
        self.assert_sum(t("/", n(left), n(1)), left)
        self.assert_sum(t("+", n(left - 1), n(1)), left)

    def test_sums_within_sums(self):
        self.assert_sum("1 + 2 * 3", 7)
        self.assert_sum("(1 + 2) * 3", 9)
        self.assert_sum("10 - 3 - 2", 5)
        self.assert_sum("10 - (3 - 2)", 9)
        self.assert_sum("100 / 7 /: 4", 2)
        self.assert_sum("100 / (7 /: 4)", 33)
        self.assert_sum("~2 * (3 - 5) + 17 / (2 + 3)", 7)
        self.assert_sum("1" + " + 1" * 19, 20)
        self.assert_sum("1 - (" * 18 + "1 - 1" + ")" * 18, 0)


class Faults(Sums):
    def test_open(self):
        for text in ("X", "X + 1", "1 + X", "X / 0", "0 * X", "1 + (2 + X)", "X - X"):
            self.assert_fault(text, "open")
        self.assert_fault(v("X.3"), "open")

    def test_kind(self):
        for term in (A, NIL, listed(n(1)), cons(n(1), n(2)), t("f", n(1)), t("f", n(1), n(2)), t("+", A, n(1)),
                     t("-", n(1), NIL),
                     t("=", n(1), n(1)), t("<", n(1), n(2)), t("<=", n(1), n(2)), t(":=", X, n(1)), t("^", n(1), n(2)),
                     t("//", n(4), n(2)), t("keep"), t("not", A), t("++", n(1), n(2)), t(":", n(4), n(2)),
                     t("plus", n(1), n(2))):
            self.assert_fault(term, "kind")

    def test_kids_of_another_kind_are_not_looked_at(self):
        for term in (t("f", X), cons(X, Y), t("^", X, n(1)), t("=", X, t("/", n(1), n(0))), t("f", t("/", n(1), n(0))),
                     t("^", n(FAR - 1), t("*", n(FAR - 1), n(FAR - 1))), t("+", n(1), t("f", X)), listed(X)):
            self.assert_fault(term, "kind")

    def test_nought(self):
        for text in ("1 / 0", "1 /: 0", "0 / 0", "0 /: 0", "~5 / 0", "~5 /: 0", "1 / (2 - 2)", "1 /: (0 * 5)",
                     "1 + 1 / 0",
                     "(1 / 0) * 0"):
            self.assert_fault(text, "nought")

    def test_far(self):
        top = "9" * 30
        half = str(5 * 10 ** 29)
        for text in (f"{top} + 1", f"1 + {top}", f"{top} - ~1", f"~{top} - 1", f"~{top} + ~1", f"{half} + {half}",
                     f"~{half} * 2",
                     f"{half} * 2", f"{top} * {top}", f"~{top} * {top}", f"{'1' + '0' * 15} * {'1' + '0' * 15}"):
            self.assert_fault(text, "far")

    def test_thirty_figures_are_told(self):
        for left, right in ((FAR - 2, 1), (5 * 10 ** 29, 5 * 10 ** 29 - 1)):
            self.assert_sum(t("+", n(left), n(right)), FAR - 1)
            self.assert_sum(t("-", n(-left), n(right)), 1 - FAR)
        self.assert_sum(t("*", n(10 ** 14), n(10 ** 15)), 10 ** 29)
        self.assert_sum(t("*", n(10 ** 15), n(10 ** 15 - 1)), 10 ** 30 - 10 ** 15)
        self.assert_sum(t("*", n(-(10 ** 15)), n(10 ** 15 - 1)), 10 ** 15 - 10 ** 30)

    def test_far_within_a_sum_whose_whole_would_be_small_again(self):
        top = "9" * 30
        for text in (f"{top} + 1 - 1", f"({top} + 1) * 0", f"({top} * 2) / 2", f"({top} * {top}) /: 10",
                     f"0 * ({top} + 1)",
                     f"1 - ({top} + 1) / {top}", f"(~{top} - 1) + 1", f"5 / ({top} + 1)", f"({top} + 1) - ({top} + 1)"):
            self.assert_fault(text, "far")

    def test_the_first_that_is_met(self):
        top = "9" * 30
        for text, word in (("X + a", "open"), ("a + X", "kind"), ("1 / 0 + X", "nought"), ("X + 1 / 0", "open"),
                           ("a + 1 / 0", "kind"), ("1 / 0 + a", "nought"), (f"({top} + 1) + X", "far"),
                           (f"X + ({top} + 1)", "open"),
                           (f"({top} + 1) / 0", "far"), (f"({top} + 1) + 1 / 0", "far"),
                           (f"1 / 0 + ({top} + 1)", "nought"),
                           ("X / 0", "open"), ("a / 0", "kind"), ("(1 + X) / (1 / 0)", "open"),
                           ("(1 + a) + (X + 1)", "kind"),
                           ("1 / (X - X)", "open"), (f"{top} * {top} + a", "far"), (f"a * ({top} * {top})", "kind")):
            self.assert_fault(text, word)

    def test_beside_a_slow_one(self):
        source = random.Random(31)
        words = {}
        for again in range(3000):
            term = self.some_sum(source, 4)
            try:
                expected = slowly_reckoned(term)
            except Met as met:
                words[str(met)] = words.get(str(met), 0) + 1
                self.assert_fault(term, str(met))
            else:
                words["none"] = words.get("none", 0) + 1
                self.assert_sum(term, expected)
        self.assertEqual(sorted(words), ["far", "kind", "none", "nought", "open"])
        self.assertGreater(min(words.values()), 50)

    def some_sum(self, source, depth):
        pick = source.randrange(40)
        if depth and pick < 26:
            mark = source.choice(("+", "-", "*", "/", "/:"))
            return t(mark, self.some_sum(source, depth - 1), self.some_sum(source, depth - 1))
        if pick == 39:
            return X
        if pick == 38:
            return source.choice((A, NIL, t("f", X), t("^", n(1), X), cons(n(1), NIL)))
        if pick > 34:
            return n(source.choice((1, -1)) * source.randrange(10 ** 28, FAR))
        return n(source.randrange(-6, 7))


class Everywhere(Sums):
    def test_the_same_question_has_the_same_answer(self):
        for again in range(3):
            self.assert_sum("7 / ~2", -4)
            self.assert_fault("1 / 0", "nought")
            self.assert_fault(t("+", B, X), "kind")


if __name__ == "__main__":
    unittest.main()
