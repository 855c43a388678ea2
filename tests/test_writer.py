import copy
import itertools
import random
import unittest

from goaltrail.errors import NoText
from goaltrail.reader import read
from goaltrail.signs import first_signs, with_sign
from goaltrail.writer import shown
from tests.helper import A, B, C, NIL, X, cons, count_parts, listed, n, t, v

# One mark with a left side, one with a right side and one with none, each at ranks below, at and above 10.
RANKS = {"left": {5: "#", 10: "+", 19: ";"}, "right": {4: "^", 11: "&", 18: "->"}, "none": {3: "!", 15: "=", 20: "?"}}


def more_signs():
    table = first_signs()
    for side, told in RANKS.items():
        for rank, mark in told.items():
            if mark not in table:
                table = with_sign(table, mark, rank, side)
    # Beside each of the others one more of the same rank and side.
    return with_sign(with_sign(table, "^^", 4, "right"), "!!", 3, "none")


def pairs_of_brackets(text):
    """The places of round brackets that are no kids' brackets."""
    pairs = []
    begun = []
    for place, sign in enumerate(text):
        if sign == "(":
            begun.append(place)
        elif sign == ")":
            first = begun.pop()
            if first == 0 or not text[first - 1].isalnum():
                pairs.append((first, place))
    return pairs


class WriterCase(unittest.TestCase):
    def assert_shown(self, term, text, signs=None):
        table = first_signs() if signs is None else signs
        with self.subTest(text):
            self.assertEqual(shown(term, table), text)
            self.assertIs(shown(term, table).__class__, str)
            self.assertEqual(read(text, table), term)

    def assert_no_bracket_too_many(self, term, signs):
        text = shown(term, signs)
        self.assertEqual(read(text, signs), term, text)
        for first, last in pairs_of_brackets(text):
            without = text[:first] + text[first + 1:last] + text[last + 1:]
            try:
                self.assertNotEqual(read(without, signs), term, text)
            except NoText:
                pass


class Kinds(WriterCase):
    def test_numbers(self):
        self.assert_shown(n(0), "0")
        self.assert_shown(n(5), "5")
        self.assert_shown(n(-5), "~5")
        self.assert_shown(n(-10), "~10")
        self.assert_shown(n(10 ** 30 - 1), "9" * 30)
        self.assert_shown(n(1 - 10 ** 30), "~" + "9" * 30)

    def test_unknowns_and_words(self):
        self.assert_shown(X, "X")
        self.assert_shown(v("Abcdefghij12"), "Abcdefghij12")
        self.assert_shown(A, "a")
        self.assert_shown(t("abcdefghij12"), "abcdefghij12")

    def test_an_unknown_that_was_marked_is_shown_as_it_is_called(self):
        self.assertEqual(shown(t("f", v("X.3")), first_signs()), "f(X.3)")

    def test_words_with_kids(self):
        self.assert_shown(t("f", A), "f(a)")
        self.assert_shown(t("f", A, X), "f(a, X)")
        self.assert_shown(t("f", A, X, n(-1)), "f(a, X, ~1)")
        self.assert_shown(t("f", A, X, n(-1), NIL), "f(a, X, ~1, [])")
        self.assert_shown(t("f", t("g", t("h", A)), t("g", B, C)), "f(g(h(a)), g(b, c))")

    def test_lists(self):
        self.assert_shown(NIL, "[]")
        self.assert_shown(listed(A), "[a]")
        self.assert_shown(listed(A, B), "[a, b]")
        self.assert_shown(listed(A, B, C), "[a, b, c]")
        self.assert_shown(cons(A, X), "[a | X]")
        self.assert_shown(cons(A, B, X), "[a, b | X]")
        self.assert_shown(cons(A, n(-5)), "[a | ~5]")
        self.assert_shown(cons(A, t("f", B)), "[a | f(b)]")
        self.assert_shown(listed(NIL), "[[]]")
        self.assert_shown(listed(listed(A, B), cons(C, X)), "[[a, b], [c | X]]")
        self.assert_shown(cons(NIL, X), "[[] | X]")
        self.assert_shown(t("f", listed(A), NIL), "f([a], [])")

    def test_a_rest_that_goes_on(self):
        self.assert_shown(cons(A, listed(B)), "[a, b]")
        self.assert_shown(cons(A, cons(B, listed(C))), "[a, b, c]")
        self.assert_shown(cons(A, cons(B, X)), "[a, b | X]")
        self.assertEqual(shown(read("[a | [b]]", first_signs()), first_signs()), "[a, b]")
        self.assertEqual(shown(read("[a | [b | [c | []]]]", first_signs()), first_signs()), "[a, b, c]")

    def test_any_rank_within_kids_and_lists(self):
        signs = more_signs()
        for mark in signs:
            term = t(mark, A, B)
            self.assert_shown(term, f"a {mark} b", signs)
            self.assert_shown(t("f", term, term), f"f(a {mark} b, a {mark} b)", signs)
            self.assert_shown(listed(term, term), f"[a {mark} b, a {mark} b]", signs)
            self.assert_shown(cons(term, term), f"[a {mark} b | a {mark} b]", signs)

    def test_rank_nought_beside_marks(self):
        self.assert_shown(t("*", t("f", t("=", A, B)), listed(C)), "f(a = b) * [c]")
        self.assert_shown(t("-", n(-1), n(-2)), "~1 - ~2")
        self.assert_shown(t("=", X, cons(A, X)), "X = [a | X]")


class Marks(WriterCase):
    def test_by_hand(self):
        signs = more_signs()
        self.assert_shown(t("-", t("-", A, B), C), "a - b - c")
        self.assert_shown(t("-", A, t("-", B, C)), "a - (b - c)")
        self.assert_shown(t("+", A, t("*", B, C)), "a + b * c")
        self.assert_shown(t("*", t("+", A, B), C), "(a + b) * c")
        self.assert_shown(t("*", A, t("+", B, C)), "a * (b + c)")
        self.assert_shown(t("/", t("/:", A, B), t("/:", B, C)), "a /: b / (b /: c)")
        self.assert_shown(t("=", t("=", A, B), C), "(a = b) = c")
        self.assert_shown(t("=", A, t("<", B, C)), "a = (b < c)")
        self.assert_shown(t(":=", X, t("+", X, n(1))), "X := X + 1")
        self.assert_shown(t("^", A, t("^", B, C)), "a ^ b ^ c", signs)
        self.assert_shown(t("^", t("^", A, B), C), "(a ^ b) ^ c", signs)
        self.assert_shown(t("^", t("^^", A, B), t("^^", B, C)), "(a ^^ b) ^ b ^^ c", signs)
        self.assert_shown(t("!", t("!!", A, B), C), "(a !! b) ! c", signs)
        self.assert_shown(t("!", A, t("!!", B, C)), "a ! (b !! c)", signs)
        self.assert_shown(t("->", t("=", A, B), t(";", B, C)), "a = b -> (b ; c)", signs)
        self.assert_shown(t("+", t("-", t("+", A, B), C), t("*", t("-", A, B), C)), "a + b - c + (a - b) * c")

    def test_every_mark_within_every_mark_at_both_sides(self):
        signs = more_signs()
        for outer, inner in itertools.product(signs, signs):
            rank, side = signs[outer]
            within = signs[inner][0]
            bare = f"a {inner} b"
            left = bare if within < rank or (within == rank and side == "left") else f"({bare})"
            right = bare if within < rank or (within == rank and side == "right") else f"({bare})"
            self.assert_shown(t(outer, t(inner, A, B), C), f"{left} {outer} c", signs)
            self.assert_shown(t(outer, C, t(inner, A, B)), f"c {outer} {right}", signs)
            self.assert_shown(t(outer, t(inner, A, B), t(inner, A, B)), f"{left} {outer} {right}", signs)

    def test_no_bracket_too_many_or_too_few_three_marks_deep(self):
        signs = {mark: told for mark, told in more_signs().items() if mark in ("=", "<", "+", "-", "^", "^^", "*")}
        for one, two, three in itertools.product(signs, repeat=3):
            for term in (
                t(one, t(two, t(three, A, B), C), X), t(one, t(two, A, t(three, B, C)), X),
                t(one, A, t(two, t(three, B, C), X)), t(one, A, t(two, B, t(three, C, X))),
                t(one, t(two, A, B), t(three, C, X)),
            ):
                self.assert_no_bracket_too_many(term, signs)

    def test_the_least_and_the_greatest_rank(self):
        for rank, side in itertools.product((1, 20), ("left", "right", "none")):
            signs = with_sign(first_signs(), "@", rank, side)
            self.assert_shown(t("@", A, B), "a @ b", signs)
            self.assert_shown(t("@", t("f", A), listed(B)), "f(a) @ [b]", signs)
            self.assert_shown(t("@", n(-1), X), "~1 @ X", signs)
            bare = "a @ b"
            left = bare if side == "left" else f"({bare})"
            right = bare if side == "right" else f"({bare})"
            self.assert_shown(t("@", t("@", A, B), C), f"{left} @ c", signs)
            self.assert_shown(t("@", C, t("@", A, B)), f"c @ {right}", signs)

    def test_the_table_tells_where_brackets_stand(self):
        term = t("@", t("+", A, B), C)
        self.assert_shown(term, "(a + b) @ c", with_sign(first_signs(), "@", 9, "left"))
        self.assert_shown(term, "a + b @ c", with_sign(first_signs(), "@", 10, "left"))
        self.assert_shown(term, "a + b @ c", with_sign(first_signs(), "@", 11, "none"))


class Anything(WriterCase):
    def some_term(self, source, marks, depth):
        pick = source.randrange(10) if depth else source.randrange(4)
        kids = [self.some_term(source, marks, depth - 1) for again in range(source.randrange(1, 5))] if pick > 3 else []
        if pick < 4:
            return (A, v("Xs"), n(source.randrange(-20, 20)), NIL)[pick]
        if pick == 4:
            return t("f", *kids)
        if pick == 5:
            return listed(*kids)
        if pick == 6:
            return cons(*kids)
        return t(source.choice(marks), kids[0], kids[-1])

    def test_what_is_shown_is_read_as_the_same_term(self):
        signs = more_signs()
        marks = sorted(signs)
        source = random.Random(9)
        many = 0
        while many < 1500:
            term = self.some_term(source, marks, 4)
            if count_parts(term) <= 40:
                many += 1
                self.assert_no_bracket_too_many(term, signs)

    def test_forty_parts(self):
        deep = A
        for depth in range(39):
            deep = t("f", deep)
        self.assert_shown(deep, "f(" * 39 + "a" + ")" * 39)
        self.assert_shown(t("f", listed(*[A] * 19)), "f([" + ", ".join(["a"] * 19) + "])")
        left = A
        right = A
        for depth in range(19):
            left = t("-", left, B)
            right = t("-", B, right)
        self.assert_shown(left, "a" + " - b" * 19)
        self.assert_shown(right, "b - (" * 18 + "b - a" + ")" * 18)


class Everywhere(unittest.TestCase):
    def test_the_table_stays(self):
        signs = more_signs()
        before = copy.deepcopy(signs)
        shown(t("+", t("^", A, B), listed(A, X)), signs)
        self.assertEqual(signs, before)
        self.assertEqual(list(signs), list(before))

    def test_the_same_question_has_the_same_answer(self):
        for again in range(3):
            self.assertEqual(shown(t("-", A, t("-", B, C)), first_signs()), "a - (b - c)")


if __name__ == "__main__":
    unittest.main()
