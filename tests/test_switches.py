import copy
import random
import unittest

from goaltrail.switches import key_of, picked, switch_of
from tests.helper import A, B, NIL, X, cons, listed, n, t, term_of, v


def heads_of(*texts):
    return [term_of(text) for text in texts]


def slow_key(term):
    return None if term[0] == "any" else term if term[0] == "num" else ("app", term[1], len(term[2]))


def slow_switch(heads):
    """Each row of the switch by its own words in the document."""
    kids = [head[2][0] if head[2] else v("None") for head in heads]
    others = sum(1 << k for k, kid in enumerate(kids) if kid[0] == "any")
    keys = {}
    for kid in kids:
        if kid[0] != "any":
            key = slow_key(kid)
            keys[key] = sum(1 << k for k, other in enumerate(kids) if other[0] == "any" or slow_key(other) == key)
    return (keys, others, (1 << len(heads)) - 1)


class Keys(unittest.TestCase):
    def test_each_kind_of_term(self):
        for term, key in ((n(5), ("num", 5)), (n(0), ("num", 0)), (n(-5), ("num", -5)), (X, None), (v("X.3"), None),
                          (A, ("app", "a", 0)),
                          (t("f", X), ("app", "f", 1)), (t("f", A, B, X, n(1)), ("app", "f", 4)),
                          (NIL, ("app", "[]", 0)),
                          (cons(A, X), ("app", "[|]", 2)), (listed(A, B), ("app", "[|]", 2)),
                          (t("+", n(1), X), ("app", "+", 2))):
            with self.subTest(term=term):
                self.assertEqual(key_of(term), key)
                if key is not None:
                    self.assertIs(key_of(term).__class__, tuple)


class Switches(unittest.TestCase):
    def assert_switch(self, heads, keys, others, whole):
        told = switch_of(heads)
        self.assertEqual(told, (keys, others, whole))
        self.assertIs(told.__class__, tuple)
        self.assertIs(told[0].__class__, dict)
        self.assertIs(told[1].__class__, int)
        self.assertIs(told[2].__class__, int)
        self.assertNotIn(None, told[0])
        self.assertEqual(told, slow_switch(heads))

    def test_no_heads(self):
        self.assert_switch([], {}, 0, 0)

    def test_heads_without_kids(self):
        self.assert_switch(heads_of("p"), {}, 1, 1)
        self.assert_switch(heads_of("p", "p", "p"), {}, 7, 7)

    def test_one_head(self):
        self.assert_switch(heads_of("p(a)"), {("app", "a", 0): 1}, 0, 1)
        self.assert_switch(heads_of("p(5)"), {("num", 5): 1}, 0, 1)
        self.assert_switch(heads_of("p(X)"), {}, 1, 1)

    def test_bits_in_the_rules_order(self):
        self.assert_switch(heads_of("p(a)", "p(b)", "p(a)", "p(1)"),
                           {("app", "a", 0): 5, ("app", "b", 0): 2, ("num", 1): 8}, 0, 15)

    def test_unknowns_ahead_between_and_behind(self):
        self.assert_switch(heads_of("p(X)", "p(a)", "p(b)"), {("app", "a", 0): 3, ("app", "b", 0): 5}, 1, 7)
        self.assert_switch(heads_of("p(a)", "p(X)", "p(b)"), {("app", "a", 0): 3, ("app", "b", 0): 6}, 2, 7)
        self.assert_switch(heads_of("p(a)", "p(b)", "p(X)"), {("app", "a", 0): 5, ("app", "b", 0): 6}, 4, 7)
        self.assert_switch(heads_of("p(X)", "p(a)", "p(Y)", "p(a)", "p(b)", "p(X)"),
                           {("app", "a", 0): 0b101111, ("app", "b", 0): 0b110101}, 0b100101, 0b111111)
        self.assert_switch(heads_of("p(X)", "p(Y)"), {}, 3, 3)

    def test_the_key_of_an_app_is_its_sign_and_number_of_kids(self):
        self.assert_switch(heads_of("p(f(a))", "p(f(b))", "p(f(a, b))", "p(f)", "p(f(X))"),
                           {("app", "f", 1): 0b10011, ("app", "f", 2): 4, ("app", "f", 0): 8}, 0, 31)
        self.assert_switch(heads_of("p([])", "p([a])", "p([X | Y])", "p(X + Y)"),
                           {("app", "[]", 0): 1, ("app", "[|]", 2): 6, ("app", "+", 2): 8}, 0, 15)

    def test_numbers(self):
        self.assert_switch(heads_of("p(0)", "p(~1)", "p(1)", "p(0)"), {("num", 0): 9, ("num", -1): 2, ("num", 1): 4},
                           0, 15)

    def test_only_the_first_kid_counts(self):
        self.assert_switch(heads_of("p(a, X)", "p(X, a)", "p(b, 5)"), {("app", "a", 0): 3, ("app", "b", 0): 6}, 2, 7)

    def test_forty_heads(self):
        heads = [t("p", n(k)) for k in range(40)]
        self.assert_switch(heads, {("num", k): 1 << k for k in range(40)}, 0, (1 << 40) - 1)
        self.assert_switch([t("p", X)] * 40, {}, (1 << 40) - 1, (1 << 40) - 1)

    def test_many(self):
        source = random.Random(41)
        kids = [X, v("Y"), A, B, n(0), n(1), t("f", X), t("f", A), t("f", A, B), NIL, cons(A, X)]
        for again in range(500):
            heads = [t("p", source.choice(kids), A) for more in range(source.randrange(12))]
            told = switch_of(heads)
            self.assertEqual(told, slow_switch(heads))
            for kid in kids + [t("g"), n(7)]:
                tried = [k for k in range(len(heads)) if picked(told, key_of(kid)) >> k & 1]
                expected = [k for k, head in enumerate(heads) if kid[0] == "any" or head[2][0][0] == "any"
                            or slow_key(head[2][0]) == slow_key(kid)]
                self.assertEqual(tried, expected)


class Picked(unittest.TestCase):
    SWITCH = ({("app", "a", 0): 3, ("num", 5): 6}, 2, 15)

    def test_by_a_key_that_is_there_one_that_is_not_and_none(self):
        self.assertEqual(picked(self.SWITCH, ("app", "a", 0)), 3)
        self.assertEqual(picked(self.SWITCH, ("num", 5)), 6)
        for key in (("app", "b", 0), ("app", "a", 1), ("num", 6), ("num", -5), ("app", "[]", 0)):
            self.assertEqual(picked(self.SWITCH, key), 2)
        self.assertEqual(picked(self.SWITCH, None), 15)

    def test_where_there_is_nothing(self):
        for key in (None, ("num", 5), ("app", "a", 0)):
            self.assertEqual(picked(({}, 0, 0), key), 0)
        for key in (None, ("num", 5)):
            self.assertEqual(picked(switch_of(heads_of("p", "p")), key), 3)

    def test_a_key_whose_bits_are_others_too(self):
        switch = switch_of(heads_of("p(a)", "p(b)", "p(X)"))
        self.assertEqual(picked(switch, key_of(A)), 5)
        self.assertEqual(picked(switch, key_of(n(1))), 4)
        self.assertEqual(picked(switch, key_of(X)), 7)


class Everywhere(unittest.TestCase):
    def test_what_is_handed_in_stays_and_what_is_given_is_the_askers_own(self):
        heads = heads_of("p(a)", "p(X)", "p(5)")
        before = copy.deepcopy(heads)
        first = switch_of(heads)
        self.assertEqual(heads, before)
        kept = copy.deepcopy(first)
        for key in (None, ("num", 5), ("num", 6)):
            picked(first, key)
        self.assertEqual(first, kept)
        heads.append(t("p", B))
        self.assertEqual(first, kept)
        first[0][("app", "c", 0)] = 9
        self.assertEqual(switch_of(before), kept)
        empty = switch_of([])
        empty[0][None] = 1
        self.assertEqual(switch_of([]), ({}, 0, 0))

    def test_the_same_question_has_the_same_answer(self):
        heads = heads_of("p(b)", "p(X)", "p(a)", "p(5)", "p(b)")
        tolds = [switch_of(heads) for again in range(3)]
        self.assertEqual(tolds[0], tolds[2])
        self.assertEqual(list(tolds[0][0]), list(tolds[2][0]))


if __name__ == "__main__":
    unittest.main()
