import copy
import random
import unittest

from goaltrail.puts import parts_up_to, walked, written_out
from tests.helper import (
    A, B, C, NIL, X, assert_refused, chain, cons, count_parts, doubled, listed, n, nested, plainly_put, t, v,
)

Y = v("Y")
Z = v("Z")


class LookedAt(dict):
    """Puttings-in that count how often they are looked into."""

    def __init__(self, puts):
        dict.__init__(self, puts)
        self.looks = 0

    def __getitem__(self, name):
        self.looks += 1
        return dict.__getitem__(self, name)

    def get(self, name, other=None):
        self.looks += 1
        return dict.get(self, name, other)


class Walked(unittest.TestCase):
    def test_what_is_no_unknown_or_no_key_is_told_as_it_is(self):
        for term in (n(5), A, NIL, t("f", X, Y), listed(X), t("+", X, n(1)), Y, v("Other")):
            with self.subTest(term=term):
                self.assertEqual(walked(term, {"X": A, "Z": Y}), term)
                self.assertEqual(walked(term, {}), term)

    def test_one_step(self):
        self.assertEqual(walked(X, {"X": A}), A)
        self.assertEqual(walked(X, {"X": n(-7)}), n(-7))
        self.assertEqual(walked(X, {"X": Y}), Y)
        self.assertEqual(walked(X, {"X": NIL}), NIL)

    def test_what_it_comes_to_is_not_written_out(self):
        self.assertEqual(walked(X, {"X": t("f", Y), "Y": A}), t("f", Y))
        self.assertEqual(walked(t("f", Y), {"Y": A}), t("f", Y))

    def test_along_many_unknowns(self):
        for many in (2, 3, 100, 1000, 4000):
            for last in (A, n(3), v("Last"), t("f", v("X0x"), v("Last"))):
                with self.subTest(many=many, last=last):
                    puts = chain(many, last)
                    self.assertEqual(walked(v("X0"), puts), last)
                    self.assertEqual(walked(v(f"X{many - 1}"), puts), last)

    def test_marked_names(self):
        self.assertEqual(walked(v("X.3"), {"X.3": v("X.4"), "X.4": A, "X": B}), A)
        self.assertEqual(walked(v("X.30"), {"X.3": A, "X": B}), v("X.30"))

    def test_names_of_other_things_are_no_unknowns(self):
        self.assertEqual(walked(A, {"a": B, "A": B}), A)
        self.assertEqual(walked(n(5), {"5": B}), n(5))


class PartsUpTo(unittest.TestCase):
    def test_without_puttings_in(self):
        for term, many in ((A, 1), (X, 1), (n(5), 1), (t("f", A, X), 3), (listed(A, B), 5), (nested(40), 40)):
            with self.subTest(term=term):
                self.assertEqual(parts_up_to(term, {}, 40), many)

    def test_as_it_reads(self):
        puts = {"X": t("f", Y, Y), "Y": listed(Z), "Z": n(3)}
        self.assertEqual(parts_up_to(Z, puts, 40), 1)
        self.assertEqual(parts_up_to(Y, puts, 40), 3)
        self.assertEqual(parts_up_to(X, puts, 40), 7)
        self.assertEqual(parts_up_to(t("g", X, X, v("W")), puts, 40), 16)
        self.assertEqual(parts_up_to(X, {"X": Y, "Y": Z}, 40), 1)
        self.assertEqual(parts_up_to(cons(A, X), {"X": cons(B, Y), "Y": NIL}, 40), 5)

    def test_at_below_and_above_the_bound(self):
        for most in (0, 1, 2, 5, 39, 40, 41, 100):
            for many in (1, 2, most - 1, most, most + 1, most + 2, most + 50):
                if many > 0:
                    with self.subTest(most=most, many=many):
                        self.assertEqual(parts_up_to(nested(many), {}, most), min(many, most + 1))
                        puts = {f"X{k}": t("f", v(f"X{k + 1}")) for k in range(many - 1)}
                        self.assertEqual(parts_up_to(v("X0"), puts, most), min(many, most + 1))

    def test_wide_ones_at_the_bound(self):
        term = t("f", X, X, X, X)
        for most in range(0, 20):
            self.assertEqual(parts_up_to(term, {"X": t("g", A, B)}, most), min(13, most + 1))

    def test_it_is_a_whole_number(self):
        self.assertIs(parts_up_to(A, {}, 40).__class__, int)
        self.assertIs(parts_up_to(nested(50), {}, 40).__class__, int)

    def test_very_many_parts(self):
        puts = doubled(60)
        for most in (0, 1, 40, 1000):
            self.assertEqual(parts_up_to(v("X0"), puts, most), most + 1)
        self.assertEqual(parts_up_to(v("X57"), puts, 40), 15)
        self.assertEqual(parts_up_to(v("X56"), puts, 40), 31)
        self.assertEqual(parts_up_to(v("X55"), puts, 40), 41)
        self.assertEqual(parts_up_to(t("g", v("X0"), A), puts, 40), 41)
        self.assertEqual(parts_up_to(t("g", A, v("X0")), puts, 40), 41)

    def test_no_part_is_looked_at_beyond_the_bound(self):
        puts = LookedAt(doubled(60))
        self.assertEqual(parts_up_to(v("X0"), puts, 40), 41)
        # At most twice for each part that is counted.
        self.assertLessEqual(puts.looks, 82)

    def test_deep_rows_of_four_thousand_keys(self):
        puts = {f"X{k}": t("f", v(f"X{k + 1}")) for k in range(4000)}
        self.assertEqual(parts_up_to(v("X0"), puts, 40), 41)
        self.assertEqual(parts_up_to(v("X0"), puts, 5000), 4001)
        self.assertEqual(parts_up_to(v("X0"), puts, 4001), 4001)
        self.assertEqual(parts_up_to(v("X0"), puts, 4000), 4001)
        self.assertEqual(parts_up_to(v("X0"), puts, 3999), 4000)
        self.assertEqual(parts_up_to(t("f", v("X0"), v("X0")), chain(4000, t("g", A)), 40), 5)


class WrittenOut(unittest.TestCase):
    def test_without_unknowns_that_are_keys(self):
        for term in (A, n(-5), X, NIL, t("f", X, A), listed(X, Y), t("+", X, n(1))):
            with self.subTest(term=term):
                self.assertEqual(written_out(term, {}), term)
                self.assertEqual(written_out(term, {"Other": A}), term)

    def test_put_in_until_no_key_is_left(self):
        puts = {"X": t("f", Y, Z), "Y": listed(Z, v("W")), "Z": n(3)}
        self.assertEqual(written_out(X, puts), t("f", listed(n(3), v("W")), n(3)))
        self.assertEqual(written_out(t("g", X, Y), puts), t("g", t("f", listed(n(3), v("W")), n(3)),
                                                            listed(n(3), v("W"))))
        self.assertEqual(written_out(cons(A, X), {"X": cons(B, Y), "Y": NIL}), listed(A, B))
        self.assertEqual(written_out(t("f", X, Y), {"X": Y}), t("f", Y, Y))
        self.assertEqual(written_out(t("f", X, Y), {"X": Y, "Y": Z}), t("f", Z, Z))
        self.assertEqual(written_out(t("f", v("X.1"), X), {"X.1": X, "X": v("X.2")}), t("f", v("X.2"), v("X.2")))

    def test_kids_are_tuples(self):
        told = written_out(t("f", t("g", X)), {"X": t("h", Y)})
        self.assertEqual(told, ("app", "f", (("app", "g", (("app", "h", (("any", "Y"),)),)),)))
        self.assertIs(told[2].__class__, tuple)

    def test_along_four_thousand_unknowns(self):
        self.assertEqual(written_out(v("X0"), chain(4000, t("f", v("Last")))), t("f", v("Last")))
        self.assertEqual(written_out(t("g", v("X0"), v("X5")), chain(4000, A)), t("g", A, A))

    def test_forty_parts_are_written_out_and_forty_one_are_refused(self):
        self.assertEqual(written_out(nested(40), {}), nested(40))
        assert_refused(self, "Big", written_out, nested(41), {})
        self.assertEqual(written_out(X, {"X": t("f", Y), "Y": nested(39)}), nested(40))
        assert_refused(self, "Big", written_out, X, {"X": t("f", Y), "Y": nested(40)})
        nine = t("g", A, B, C, listed(A, B))
        four = t("h", X, X, X, X)
        self.assertEqual(written_out(t("f", four, A, Y), {"X": nine}), t("f", t("h", nine, nine, nine, nine), A, Y))
        assert_refused(self, "Big", written_out, t("f", four, A, Y, B), {"X": nine})
        assert_refused(self, "Big", written_out, t("f", B, A, Y, four), {"X": nine})

    def test_a_row_of_puttings_in_at_the_bound(self):
        for many in (38, 39, 40, 41, 4000):
            puts = {f"X{k}": t("f", v(f"X{k + 1}")) for k in range(many)}
            with self.subTest(many):
                if many < 40:
                    term = v(f"X{many}")
                    for again in range(many):
                        term = t("f", term)
                    self.assertEqual(written_out(v("X0"), puts), term)
                else:
                    assert_refused(self, "Big", written_out, v("X0"), puts)

    def test_very_many_parts_are_refused(self):
        puts = doubled(60)
        error = assert_refused(self, "Big", written_out, v("X0"), puts)
        self.assertEqual(error.row, 0)
        assert_refused(self, "Big", written_out, t("g", A, v("X0")), puts)
        assert_refused(self, "Big", written_out, v("X55"), puts)
        self.assertEqual(written_out(v("X58"), puts), t("f", t("f", v("X60"), v("X60")), t("f", v("X60"), v("X60"))))

    def test_beside_a_plain_putting_in(self):
        source = random.Random(2)
        names = ["X0", "X1", "X2", "X3", "X4", "X5"]
        for again in range(500):
            puts = {}
            for place, name in enumerate(names[:-1]):
                if source.randrange(4):
                    puts[name] = self.some_term(source, names[place + 1:], 2)
            term = self.some_term(source, names, 2)
            expected = plainly_put(term, puts)
            many = count_parts(expected)
            self.assertEqual(parts_up_to(term, puts, 40), min(many, 41))
            self.assertEqual(parts_up_to(term, puts, 7), min(many, 8))
            if many > 40:
                assert_refused(self, "Big", written_out, term, puts)
            else:
                self.assertEqual(written_out(term, puts), expected)

    def some_term(self, source, names, depth):
        pick = source.randrange(6) if depth else source.randrange(4)
        if pick < 2:
            return v(source.choice(names))
        if pick < 4:
            return (A, n(source.randrange(9)))[pick - 2]
        return t("f", *[self.some_term(source, names, depth - 1) for again in range(source.randrange(1, 4))])


class Everywhere(unittest.TestCase):
    def test_the_puttings_in_stay(self):
        puts = {"X": t("f", Y, Y), "Y": Z, "Z": listed(A, v("W"))}
        before = copy.deepcopy(puts)
        for term in (X, Y, t("g", X, Y, Z), A):
            walked(term, puts)
            parts_up_to(term, puts, 3)
            parts_up_to(term, puts, 40)
            written_out(term, puts)
            self.assertEqual(puts, before)
            self.assertEqual(list(puts), list(before))
        big = doubled(60)
        before = copy.deepcopy(big)
        assert_refused(self, "Big", written_out, v("X0"), big)
        self.assertEqual(big, before)

    def test_puttings_in_changed_later_change_no_answer_given(self):
        puts = {"X": t("f", Y), "Y": A}
        told = written_out(X, puts)
        puts["Y"] = B
        self.assertEqual(told, t("f", A))
        self.assertEqual(written_out(X, puts), t("f", B))

    def test_the_same_question_has_the_same_answer(self):
        puts = {"X": t("f", Y, Y), "Y": A}
        for again in range(3):
            self.assertEqual(written_out(X, puts), t("f", A, A))
            self.assertEqual(parts_up_to(X, puts, 2), 3)
            self.assertEqual(walked(X, puts), t("f", Y, Y))


if __name__ == "__main__":
    unittest.main()
