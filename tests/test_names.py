import copy
import random
import unittest

from goaltrail.names import alike, marked, told_anew, unknowns_of
from tests.helper import A, B, NIL, X, called, cons, listed, n, names_in, nested, t, term_of, v

Y = v("Y")
Z = v("Z")


def some_term(source, names, depth):
    pick = source.randrange(7) if depth else source.randrange(4)
    if pick < 3:
        return v(source.choice(names))
    if pick == 3:
        return source.choice((A, n(2)))
    return t("f", *[some_term(source, names, depth - 1) for again in range(source.randrange(1, 4))])


class UnknownsOf(unittest.TestCase):
    def assert_unknowns(self, terms, names):
        with self.subTest(terms=terms):
            self.assertEqual(unknowns_of(terms), names)
            self.assertIs(unknowns_of(terms).__class__, list)

    def test_none(self):
        self.assert_unknowns([], [])
        self.assert_unknowns([A], [])
        self.assert_unknowns([n(5), NIL, t("f", A, n(1)), listed(A, B)], [])

    def test_in_the_order_in_which_they_first_stand(self):
        self.assert_unknowns([X], ["X"])
        self.assert_unknowns([t("f", Y, X)], ["Y", "X"])
        self.assert_unknowns([t("f", Y, X, Y, Z, X)], ["Y", "X", "Z"])
        self.assert_unknowns([t("f", t("g", Z, t("h", X)), Y)], ["Z", "X", "Y"])
        self.assert_unknowns([t("f", A, t("g", Z), X)], ["Z", "X"])
        self.assert_unknowns([term_of("[Z, f(Y) | T]")], ["Z", "Y", "T"])
        self.assert_unknowns([term_of("X + Y * Z = W")], ["X", "Y", "Z", "W"])

    def test_over_several_terms(self):
        self.assert_unknowns([X, Y, Z], ["X", "Y", "Z"])
        self.assert_unknowns([Z, A, t("f", Y, Z), X, Y], ["Z", "Y", "X"])
        self.assert_unknowns([t("f", Y, X), t("f", X, Z)], ["Y", "X", "Z"])
        self.assert_unknowns([X, X, X], ["X"])

    def test_marked_names_are_names(self):
        self.assert_unknowns([t("f", v("X.3"), X, v("X.3.7"), v("X.3"))], ["X.3", "X", "X.3.7"])

    def test_many(self):
        source = random.Random(21)
        for again in range(300):
            terms = [some_term(source, ["X", "Y", "Z", "W"], 3) for more in range(source.randrange(4))]
            expected = list(dict.fromkeys(name for term in terms for name in names_in(term)))
            self.assert_unknowns(terms, expected)

    def test_a_deep_one(self):
        term = X
        for again in range(39):
            term = t("f", term)
        self.assert_unknowns([term, nested(40)], ["X"])


class ToldAnew(unittest.TestCase):
    def assert_told(self, terms, expected):
        with self.subTest(terms=terms):
            self.assertEqual(told_anew(terms), expected)
            self.assertIs(told_anew(terms).__class__, list)

    def test_all_together(self):
        self.assert_told([], [])
        self.assert_told([A, n(5), NIL, nested(40)], [A, n(5), NIL, nested(40)])
        self.assert_told([X], [v("U1")])
        self.assert_told([t("f", Y, X, Y)], [t("f", v("U1"), v("U2"), v("U1"))])
        self.assert_told([X, Y, X], [v("U1"), v("U2"), v("U1")])
        self.assert_told([t("f", Z, A), t("g", X, Z)], [t("f", v("U1"), A), t("g", v("U2"), v("U1"))])
        self.assert_told([cons(A, Y), t("+", Y, n(1))], [cons(A, v("U1")), t("+", v("U1"), n(1))])

    def test_names_that_are_called_like_new_ones(self):
        one, two, three = v("U1"), v("U2"), v("U3")
        self.assert_told([t("f", two, one)], [t("f", one, two)])
        self.assert_told([t("f", two, three, one)], [t("f", one, two, three)])
        self.assert_told([t("f", X, one)], [t("f", one, two)])
        self.assert_told([t("f", one, two)], [t("f", one, two)])
        self.assert_told([two, one, X], [one, two, three])

    def test_marked_names(self):
        self.assert_told([t("f", v("X.3"), X, v("X.3.7"))], [t("f", v("U1"), v("U2"), v("U3"))])

    def test_more_than_nine(self):
        terms = [v(f"X{k}") for k in range(40)]
        self.assert_told(terms, [v(f"U{k}") for k in range(1, 41)])

    def test_told_anew_twice_is_the_same(self):
        source = random.Random(22)
        for again in range(200):
            terms = [some_term(source, ["U1", "U2", "X", "Y"], 3) for more in range(source.randrange(1, 4))]
            told = told_anew(terms)
            self.assertEqual(told_anew(told), told)
            count = len(unknowns_of(terms))
            self.assertEqual(unknowns_of(told), [f"U{k + 1}" for k in range(count)])
            back = dict(zip(unknowns_of(told), unknowns_of(terms)))
            self.assertEqual([called(term, back) for term in told], terms)


class Alike(unittest.TestCase):
    def assert_alike(self, one, other, expected):
        with self.subTest(one=one, other=other):
            self.assertIs(alike(one, other), expected)
            self.assertIs(alike(other, one), expected)

    def test_each_by_itself(self):
        self.assert_alike(X, Y, True)
        self.assert_alike(X, X, True)
        self.assert_alike(t("f", X, Y), t("f", Y, X), True)
        self.assert_alike(t("f", X, Y), t("f", Z, v("W")), True)
        self.assert_alike(t("f", X, X), t("f", Y, Y), True)
        self.assert_alike(t("f", v("X.3"), v("U1")), t("f", v("U1"), v("U2")), True)

    def test_not_alike(self):
        self.assert_alike(t("f", X, X), t("f", X, Y), False)
        self.assert_alike(t("f", X, Y, X), t("f", X, Y, Y), False)
        self.assert_alike(X, A, False)
        self.assert_alike(t("f", X), t("f", A), False)
        self.assert_alike(t("f", X), t("g", X), False)
        self.assert_alike(t("f", X), t("f", X, X), False)
        self.assert_alike(n(1), n(2), False)
        self.assert_alike(n(1), A, False)

    def test_without_unknowns(self):
        for term in (A, n(-4), NIL, t("f", A, n(1)), listed(A, B), nested(40)):
            self.assert_alike(term, term, True)
        self.assert_alike(A, B, False)

    def test_whatever_the_names(self):
        source = random.Random(23)
        for again in range(200):
            one = some_term(source, ["X", "Y", "Z"], 3)
            other = some_term(source, ["X", "Y", "Z"], 3)
            names = dict(zip(["X", "Y", "Z"], source.sample(["X", "Y", "Z", "U1", "U2", "X.1"], 3)))
            self.assert_alike(one, called(one, names), True)
            into = dict(zip(names_in(one), names_in(other)))
            back = dict(zip(names_in(other), names_in(one)))
            expected = called_same(one, other, into, back)
            self.assert_alike(one, other, expected)


def called_same(one, other, into, back):
    """Whether each is the other one by calling unknowns otherwise, one for one."""
    if len(names_in(one)) != len(names_in(other)):
        return False
    return called(one, into) == other and called(other, back) == one


class Marked(unittest.TestCase):
    def test_each_unknown_gets_the_number(self):
        self.assertEqual(marked(X, 0), v("X.0"))
        self.assertEqual(marked(X, 7), v("X.7"))
        self.assertEqual(marked(X, 12345), v("X.12345"))
        self.assertEqual(marked(t("f", X, t("g", Y, X)), 3), t("f", v("X.3"), t("g", v("Y.3"), v("X.3"))))
        self.assertEqual(marked(cons(A, Y), 10), cons(A, v("Y.10")))

    def test_marked_again(self):
        self.assertEqual(marked(v("X.3"), 7), v("X.3.7"))
        self.assertEqual(marked(marked(t("f", X, Y), 3), 7), t("f", v("X.3.7"), v("Y.3.7")))
        self.assertEqual(marked(t("f", X, v("X.3")), 3), t("f", v("X.3"), v("X.3.3")))

    def test_a_term_without_unknowns(self):
        for term in (A, n(5), NIL, t("f", A, n(0)), listed(A, B), nested(40)):
            self.assertEqual(marked(term, 4), term)

    def test_kids_are_tuples(self):
        self.assertEqual(marked(t("f", X), 1), ("app", "f", (("any", "X.1"),)))
        self.assertIs(marked(t("f", X), 1)[2].__class__, tuple)


class Everywhere(unittest.TestCase):
    def test_lists_handed_in_stay(self):
        terms = [t("f", Y, X), A, X]
        before = copy.deepcopy(terms)
        unknowns_of(terms)
        told_anew(terms)
        self.assertEqual(terms, before)

    def test_lists_given_are_the_askers_own(self):
        terms = [A, NIL]
        told = told_anew(terms)
        self.assertIsNot(told, terms)
        told.append(B)
        self.assertEqual(terms, [A, NIL])
        names = unknowns_of([X])
        names.append("Y")
        self.assertEqual(unknowns_of([X]), ["X"])
        self.assertEqual(told_anew([X]), [v("U1")])

    def test_the_same_question_has_the_same_answer(self):
        for again in range(3):
            self.assertEqual(told_anew([Y, X]), [v("U1"), v("U2")])
            self.assertEqual(marked(X, 2), v("X.2"))
            self.assertIs(alike(X, Y), True)


if __name__ == "__main__":
    unittest.main()
