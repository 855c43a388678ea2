import copy
import unittest

from goaltrail.terms import app, is_mark, is_name, is_word, items_of, list_of, num, parts, unknown
from tests.helper import A, B, C, NIL, X, cons, listed, n, t

SMALL = "abcdefghijklmnopqrstuvwxyz"
GREAT = SMALL.upper()
FIGURES = "0123456789"
MARK_SIGNS = "+-*/:<=>&^?@#!;$"
# Letters and figures, and their like, that are not ASCII.
FOREIGN = "\u00e4\u00c4\u00df\u00e9\u0101\u03b1\u0394\u0436\u00b2\u00bd\u0663\u0967\u2160\uff11\uff21\uff41\u00aa\u212a\u0130"
NEITHER = "_ \t\n.,()[]|{}'\"~\\`" + MARK_SIGNS + "%"


def all_ascii():
    return "".join(chr(code) for code in range(128))


class Making(unittest.TestCase):
    def test_a_number_is_its_tuple(self):
        for number in (0, 1, -1, 7, -12, 10 ** 29, -(10 ** 29), 10 ** 30 - 1, -(10 ** 30 - 1)):
            with self.subTest(number):
                self.assertEqual(num(number), ("num", number))
                self.assertIs(num(number).__class__, tuple)
                self.assertIs(num(number)[1].__class__, int)

    def test_an_unknown_is_its_tuple(self):
        for name in ("X", "Xs", "T1", "ABCDEFGHIJKL", "Longname9012"):
            self.assertEqual(unknown(name), ("any", name))
            self.assertIs(unknown(name).__class__, tuple)

    def test_a_word_with_none_to_four_kids(self):
        kids = [A, X, n(3), t("f", B)]
        for many in range(5):
            with self.subTest(many):
                expected = ("app", "f", tuple(kids[:many]))
                self.assertEqual(app("f", kids[:many]), expected)
                self.assertEqual(app("f", tuple(kids[:many])), expected)

    def test_kids_are_a_tuple_however_they_were_handed_in(self):
        for kids in ([], (), [A], (A,), [A, X], (A, X)):
            with self.subTest(kids=kids):
                self.assertIs(app("f", kids).__class__, tuple)
                self.assertIs(app("f", kids)[2].__class__, tuple)

    def test_a_mark_the_empty_list_and_a_pair(self):
        self.assertEqual(app("+", [A, n(2)]), ("app", "+", (A, n(2))))
        self.assertEqual(app("/:", (A, n(2))), ("app", "/:", (A, n(2))))
        self.assertEqual(app("[]", []), ("app", "[]", ()))
        self.assertEqual(app("[]", ()), ("app", "[]", ()))
        self.assertEqual(app("[|]", [A, X]), ("app", "[|]", (A, X)))
        self.assertEqual(app("[|]", (A, X)), ("app", "[|]", (A, X)))

    def test_a_list_of_kids_changed_behind_the_call_changes_no_term(self):
        kids = [A, B]
        term = app("f", kids)
        kids.append(C)
        kids[0] = X
        self.assertEqual(term, ("app", "f", (A, B)))

    def test_the_list_handed_in_stays(self):
        kids = [A, t("g", X), n(1)]
        before = copy.deepcopy(kids)
        app("f", kids)
        self.assertEqual(kids, before)
        self.assertIs(kids.__class__, list)

    def test_the_same_question_has_the_same_answer(self):
        self.assertEqual(app("f", [A, X]), app("f", [A, X]))
        self.assertEqual(num(4), num(4))
        self.assertEqual(unknown("X"), unknown("X"))


class Parts(unittest.TestCase):
    def test_the_two_that_the_document_names(self):
        self.assertEqual(parts(t("f", A, X)), 3)
        self.assertEqual(parts(listed(A, B)), 5)

    def test_single_ones(self):
        for term in (A, X, n(0), n(-(10 ** 29)), NIL, t("longwordabcd")):
            with self.subTest(term=term):
                self.assertEqual(parts(term), 1)

    def test_every_place_is_counted_also_where_terms_are_the_same(self):
        self.assertEqual(parts(t("f", X, X, X, X)), 5)
        self.assertEqual(parts(t("+", t("*", n(1), n(1)), t("-", n(1), n(1)))), 7)
        self.assertEqual(parts(cons(A, B, X)), 5)
        self.assertEqual(parts(t("f", listed(t("g", A)), t("g", t("g", A)))), 8)

    def test_deep_and_wide_ones(self):
        deep = A
        for depth in range(39):
            deep = t("f", deep)
        self.assertEqual(parts(deep), 40)
        wide = t("f", *[t("g", A, B, C, X)] * 4)
        self.assertEqual(parts(wide), 21)
        self.assertEqual(parts(t("f", deep)), 41)
        self.assertEqual(parts(listed(*[A] * 19)), 39)
        left = A
        right = A
        for depth in range(19):
            left = t("+", left, B)
            right = t("+", B, right)
        self.assertEqual((parts(left), parts(right)), (39, 39))

    def test_it_is_a_whole_number(self):
        self.assertIs(parts(A).__class__, int)


class Lists(unittest.TestCase):
    RESTS = (NIL, X, n(5), n(-1), A, t("f", A, X), t("+", A, n(1)), t("=", X, NIL))

    def test_list_of_makes_pairs(self):
        self.assertEqual(list_of([A, B], NIL), ("app", "[|]", (A, ("app", "[|]", (B, ("app", "[]", ()))))))
        self.assertEqual(list_of([A], X), ("app", "[|]", (A, X)))

    def test_list_of_no_things_is_the_rest(self):
        for rest in self.RESTS:
            with self.subTest(rest=rest):
                self.assertEqual(list_of([], rest), rest)

    def test_items_of_tells_things_and_rest(self):
        self.assertEqual(items_of(listed(A, B, C)), ([A, B, C], NIL))
        self.assertEqual(items_of(cons(A, B, X)), ([A, B], X))

    def test_items_of_tells_a_tuple_with_a_list(self):
        for term in (listed(A), NIL, X, A):
            told = items_of(term)
            self.assertIs(told.__class__, tuple)
            self.assertEqual(len(told), 2)
            self.assertIs(told[0].__class__, list)

    def test_back_and_forth(self):
        things = [A, X, n(-3), listed(B), t("f", C)]
        for many in range(len(things) + 1):
            for rest in self.RESTS:
                with self.subTest(many=many, rest=rest):
                    term = list_of(things[:many], rest)
                    self.assertEqual(term, cons(*things[:many], rest))
                    self.assertEqual(items_of(term), (things[:many], rest))

    def test_a_rest_that_goes_on(self):
        self.assertEqual(list_of([A], listed(B, C)), listed(A, B, C))
        self.assertEqual(items_of(list_of([A], cons(B, X))), ([A, B], X))
        self.assertEqual(items_of(list_of([A], cons(B, listed(C)))), ([A, B, C], NIL))

    def test_a_first_thing_that_is_a_list_stays_one_thing(self):
        self.assertEqual(items_of(listed(listed(A, B), C)), ([listed(A, B), C], NIL))

    def test_what_is_no_pair_is_the_rest_of_nothing(self):
        for term in self.RESTS + (t("f", A, listed(B)), t("f", listed(A), NIL)):
            with self.subTest(term=term):
                self.assertEqual(items_of(term), ([], term))

    def test_a_pair_has_two_kids(self):
        for term in (t("[|]"), t("[|]", A), t("[|]", A, B, C)):
            with self.subTest(term=term):
                self.assertEqual(items_of(term), ([], term))

    def test_the_list_given_is_the_askers_own(self):
        term = listed(A, B)
        first = items_of(term)[0]
        first.append(C)
        first[0] = X
        self.assertEqual(items_of(term), ([A, B], NIL))
        empty = items_of(NIL)[0]
        empty.append(C)
        self.assertEqual(items_of(NIL), ([], NIL))
        self.assertEqual(items_of(A), ([], A))

    def test_the_list_handed_in_stays_and_may_be_changed_later(self):
        things = [A, B]
        term = list_of(things, X)
        self.assertEqual(things, [A, B])
        things.append(C)
        things[0] = X
        self.assertEqual(term, cons(A, B, X))


class Called(unittest.TestCase):
    """Words and names, which differ in their first sign alone."""

    def assert_bool(self, told, expected, what):
        with self.subTest(what):
            self.assertIs(told, expected)

    def test_how_long(self):
        for rest in ("b", "B", "7"):
            for long in range(1, 16):
                text = rest * (long - 1)
                self.assert_bool(is_word("a" + text), long <= 12, "a" + text)
                self.assert_bool(is_name("A" + text), long <= 12, "A" + text)

    def test_no_signs(self):
        self.assertIs(is_word(""), False)
        self.assertIs(is_name(""), False)

    def test_every_ascii_sign_alone_and_ahead(self):
        for sign in all_ascii():
            for text in (sign, sign + "aB3"):
                self.assert_bool(is_word(text), sign in SMALL, text)
                self.assert_bool(is_name(text), sign in GREAT, text)

    def test_every_ascii_sign_within_and_at_the_end(self):
        for sign in all_ascii():
            good = sign in SMALL + GREAT + FIGURES
            for text in (sign, sign + "b", "b" + sign, "bcdef" + sign + "ghijk", "bcdefghijkl"[:10] + sign):
                self.assert_bool(is_word("a" + text), good, "a" + text)
                self.assert_bool(is_name("A" + text), good, "A" + text)

    def test_a_wrong_sign_at_any_place(self):
        for sign in NEITHER:
            for place in range(12):
                small = "abcdefghijkl"
                text = small[:place] + sign + small[place + 1:]
                great = text if place == 0 else "A" + text[1:]
                self.assert_bool(is_word(text), False, text)
                self.assert_bool(is_name(great), False, great)

    def test_letters_and_figures_that_are_not_ascii(self):
        for sign in FOREIGN:
            for text in (sign, sign + "a", "a" + sign, "A" + sign, "a" + sign + "b", "A" + sign + "b"):
                self.assert_bool(is_word(text), False, text)
                self.assert_bool(is_name(text), False, text)
                self.assert_bool(is_mark(text), False, text)

    def test_marks_are_neither(self):
        for text in ("+", ":=", "[]", "[|]", "<-"):
            self.assert_bool(is_word(text), False, text)
            self.assert_bool(is_name(text), False, text)

    def test_figures_ahead(self):
        for text in ("1", "1a", "0A", "9B9"):
            self.assert_bool(is_word(text), False, text)
            self.assert_bool(is_name(text), False, text)


class Marks(unittest.TestCase):
    def test_each_mark_sign_alone(self):
        self.assertEqual(len(MARK_SIGNS), 16)
        for sign in all_ascii():
            with self.subTest(sign):
                self.assertIs(is_mark(sign), sign in MARK_SIGNS)

    def test_two_and_three_of_them(self):
        for one in MARK_SIGNS:
            for two in MARK_SIGNS:
                with self.subTest(one + two):
                    self.assertIs(is_mark(one + two), one + two != "<-")
                for three in MARK_SIGNS:
                    self.assertIs(is_mark(one + two + three), True)

    def test_none_four_and_more_of_them(self):
        for text in ("", "++++", "<-<-", "<---", "====", "+-*/:", MARK_SIGNS):
            with self.subTest(text):
                self.assertIs(is_mark(text), False)

    def test_the_arrow(self):
        self.assertIs(is_mark("<-"), False)
        self.assertIs(is_mark("<--"), True)
        self.assertIs(is_mark("-<-"), True)
        self.assertIs(is_mark("<<-"), True)
        self.assertIs(is_mark("<"), True)
        self.assertIs(is_mark("-"), True)
        self.assertIs(is_mark("-<"), True)

    def test_a_wrong_sign_at_any_place(self):
        for sign in SMALL + GREAT + FIGURES + " \t\n_.,()[]|{}'\"~\\`%":
            for text in (sign + "+", "+" + sign, sign + "++", "+" + sign + "+", "++" + sign):
                with self.subTest(text):
                    self.assertIs(is_mark(text), False)

    def test_no_other_sign_of_terms_is_a_mark(self):
        for text in ("[]", "[|]", "|", ",", "(", ")", "f", "X", "1", "~", "~5"):
            with self.subTest(text):
                self.assertIs(is_mark(text), False)


if __name__ == "__main__":
    unittest.main()
