import copy
import itertools
import random
import unittest

from goaltrail.ones import made_one, matched
from goaltrail.puts import parts_up_to, walked, written_out
from tests.helper import (
    A, B, C, NIL, X, called_within, chain, cons, count_parts, doubled, listed, n, nested, plainly_put, slowly_made_one,
    stands_in, t,
    term_of, v,
)

Y = v("Y")
Z = v("Z")


def slowly_matched(one, other, puts):
    if one[0] == "any":
        if one[1] in puts:
            return puts if puts[one[1]] == other else None
        return {**puts, one[1]: other}
    if one[0] == "num" or other[0] != "app":
        return puts if one == other else None
    if one[1] != other[1] or len(one[2]) != len(other[2]):
        return None
    for kids in zip(one[2], other[2]):
        puts = slowly_matched(kids[0], kids[1], puts)
        if puts is None:
            return None
    return puts


def some_term(source, names, depth):
    pick = source.randrange(8) if depth else source.randrange(5)
    if pick < 3:
        return v(source.choice(names))
    if pick < 5:
        return (A, n(source.randrange(2)))[pick - 3]
    kids = [some_term(source, names, depth - 1) for again in range(source.randrange(1, 4))]
    return t(source.choice("fg"), *kids)


def some_puts(source, names):
    """Puttings-in by which no unknown comes to itself."""
    row = list(names)
    source.shuffle(row)
    return {name: some_term(source, row[place + 1:], 1) for place,
            name in enumerate(row[:-1]) if source.randrange(3) == 0}


class OnesCase(unittest.TestCase):
    def assert_one(self, one, other, puts, readings):
        """They are made one, the old terms stay, and each unknown named reads so."""
        before = copy.deepcopy(puts)
        told = made_one(one, other, puts)
        with self.subTest(one=one, other=other, puts=puts):
            self.assertEqual(puts, before)
            self.assertIs(told.__class__, tuple)
            self.assertEqual((len(told), told[0]), (2, "one"))
            self.assertIs(told[1].__class__, dict)
            self.assertIsNot(told[1], puts)
            for name in puts:
                self.assertEqual(told[1][name], puts[name])
            for name, reading in readings.items():
                self.assertEqual(plainly_put(v(name), told[1]), reading)
            self.assertEqual(plainly_put(one, told[1]), plainly_put(other, told[1]))
        return told[1]

    def assert_told(self, one, other, puts, expected):
        before = copy.deepcopy(puts)
        with self.subTest(one=one, other=other, puts=puts):
            told = made_one(one, other, puts)
            self.assertEqual(told, expected)
            self.assertIs(told.__class__, tuple)
            self.assertIs(told[1].__class__, tuple)
            self.assertEqual(puts, before)


class EachPairOfKinds(OnesCase):
    def test_the_same_unknown_at_both(self):
        self.assertEqual(made_one(X, X, {}), ("one", {}))
        self.assertEqual(made_one(X, X, {"Y": A}), ("one", {"Y": A}))
        self.assertEqual(made_one(t("f", X, X), t("f", X, X), {}), ("one", {}))
        self.assertEqual(made_one(X, Y, {"X": Y}), ("one", {"X": Y}))
        self.assertEqual(made_one(X, Y, {"Y": X}), ("one", {"Y": X}))
        self.assertEqual(made_one(X, Y, {"X": Z, "Y": Z}), ("one", {"X": Z, "Y": Z}))

    def test_two_unknowns_the_right_one_is_put_in_for_the_left_one(self):
        self.assertEqual(made_one(X, Y, {}), ("one", {"X": Y}))
        self.assertEqual(made_one(Y, X, {}), ("one", {"Y": X}))
        self.assert_one(t("f", X, X), t("f", Y, Z), {}, {"X": Z, "Y": Z, "Z": Z})
        self.assert_one(t("f", Y, Z), t("f", X, X), {}, {"Y": X, "Z": X, "X": X})
        self.assert_one(t("f", X, Y), t("f", Y, X), {}, {"X": Y, "Y": Y})
        self.assert_one(t("f", X, Y, Z), t("f", Y, Z, X), {}, {"X": Z, "Y": Z, "Z": Z})

    def test_an_unknown_at_the_left_or_at_the_right(self):
        for term in (n(5), n(-3), A, NIL, t("f", A, Y), listed(Y), t("+", Y, n(1)), cons(A, Y)):
            self.assertEqual(made_one(X, term, {}), ("one", {"X": term}))
            self.assertEqual(made_one(term, X, {}), ("one", {"X": term}))

    def test_two_numbers(self):
        for one, other in itertools.product((0, 1, -1, 5, -5, 10 ** 30 - 1, 1 - 10 ** 30), repeat=2):
            if one == other:
                self.assertEqual(made_one(n(one), n(other), {}), ("one", {}))
            else:
                self.assert_told(n(one), n(other), {}, ("part", (), n(one), n(other)))

    def test_two_apps(self):
        for term in (A, NIL, t("f", A), t("f", A, B, C, n(1)), listed(A, B), t("+", n(1), n(2))):
            self.assertEqual(made_one(term, term, {}), ("one", {}))
        self.assert_told(A, B, {}, ("part", (), ("app", "a", 0), ("app", "b", 0)))
        self.assert_told(t("f", A), t("g", A), {}, ("part", (), ("app", "f", 1), ("app", "g", 1)))
        self.assert_told(A, t("a", B), {}, ("part", (), ("app", "a", 0), ("app", "a", 1)))
        self.assert_told(t("f", A, B), t("f", A), {}, ("part", (), ("app", "f", 2), ("app", "f", 1)))
        self.assert_told(t("f", B, A), t("g", A), {}, ("part", (), ("app", "f", 2), ("app", "g", 1)))
        self.assert_told(t("+", A, B), t("-", A, B), {}, ("part", (), ("app", "+", 2), ("app", "-", 2)))
        self.assert_told(NIL, cons(A, X), {}, ("part", (), ("app", "[]", 0), ("app", "[|]", 2)))
        self.assert_told(cons(A, X), NIL, {}, ("part", (), ("app", "[|]", 2), ("app", "[]", 0)))

    def test_a_number_and_an_app(self):
        self.assert_told(n(5), A, {}, ("part", (), n(5), ("app", "a", 0)))
        self.assert_told(A, n(5), {}, ("part", (), ("app", "a", 0), n(5)))
        self.assert_told(n(0), NIL, {}, ("part", (), n(0), ("app", "[]", 0)))
        self.assert_told(t("f", X, Y), n(-1), {}, ("part", (), ("app", "f", 2), n(-1)))
        self.assert_told(n(3), t("+", n(1), n(2)), {}, ("part", (), n(3), ("app", "+", 2)))


class Order(OnesCase):
    def test_kid_by_kid_from_the_left(self):
        self.assert_told(t("f", A, B, C), t("f", A, C, B), {}, ("part", (1,), ("app", "b", 0), ("app", "c", 0)))
        self.assert_told(t("f", X, X), t("f", A, B), {}, ("part", (1,), ("app", "a", 0), ("app", "b", 0)))
        self.assert_told(t("f", A, B), t("f", X, X), {}, ("part", (1,), ("app", "b", 0), ("app", "a", 0)))
        self.assert_told(t("f", X, A, X), t("f", n(1), B, n(2)), {}, ("part", (1,), ("app", "a", 0), ("app", "b", 0)))

    def test_a_kids_kids_ahead_of_the_next_kid(self):
        one = t("f", t("g", A, t("h", B)), n(1))
        other = t("f", t("g", A, t("h", C)), n(2))
        self.assert_told(one, other, {}, ("part", (0, 1, 0), ("app", "b", 0), ("app", "c", 0)))
        one = t("f", t("g", X), X)
        self.assert_told(one, t("f", t("g", A), B), {}, ("part", (1,), ("app", "a", 0), ("app", "b", 0)))
        self.assert_told(t("f", X, t("g", X)), t("f", A, t("g", B)), {},
                         ("part", (1, 0), ("app", "a", 0), ("app", "b", 0)))

    def test_which_unknown_is_put_in_for_hangs_on_the_order(self):
        self.assert_one(t("f", X, t("g", Y), Z), t("f", Y, t("g", Z), X), {}, {"X": Z, "Y": Z})
        self.assert_one(t("f", t("g", X), A), t("f", t("g", Y), X), {}, {"X": A, "Y": A})

    def test_of_a_part_and_a_ring_the_one_that_is_met_first(self):
        ring = t("g", X)
        self.assert_told(t("f", A, X), t("f", B, ring), {}, ("part", (0,), ("app", "a", 0), ("app", "b", 0)))
        self.assert_told(t("f", X, A), t("f", ring, B), {}, ("ring", (0,), "X"))
        self.assert_told(t("f", t("g", A, X), n(1)), t("f", t("g", A, ring), n(2)), {}, ("ring", (0, 1), "X"))
        self.assert_told(t("f", t("g", n(1)), X), t("f", t("g", n(2)), ring), {}, ("part", (0, 0), n(1), n(2)))


class OldPuttingsIn(OnesCase):
    def test_both_are_looked_at_as_they_read(self):
        puts = {"X": t("f", Y), "Z": A}
        self.assert_one(X, t("f", B), puts, {"Y": B, "X": t("f", B), "Z": A})
        self.assert_one(t("f", B), X, puts, {"Y": B, "X": t("f", B)})
        self.assert_one(X, t("f", Z), puts, {"Y": A, "X": t("f", A)})
        self.assert_told(X, t("g", B), puts, ("part", (), ("app", "f", 1), ("app", "g", 1)))
        self.assert_told(Z, B, puts, ("part", (), ("app", "a", 0), ("app", "b", 0)))
        self.assert_told(t("h", n(1), X), t("h", n(1), t("f", t("g", Z))), {"X": t("f", Y), "Y": t("g", B), "Z": A},
                         ("part", (1, 0, 0), ("app", "b", 0), ("app", "a", 0)))

    def test_an_unknown_that_leads_to_one_that_is_no_key(self):
        self.assert_one(X, A, {"X": Y}, {"X": A, "Y": A})
        self.assert_one(A, X, {"X": Y}, {"X": A, "Y": A})
        self.assert_one(X, Z, {"X": Y}, {"X": Z, "Y": Z})
        self.assert_one(Z, X, {"X": Y}, {"X": Y, "Z": Y})

    def test_along_many_unknowns(self):
        for many in (2, 40, 1000, 4000):
            puts = chain(many, v("Last"))
            told = made_one(v("X0"), t("f", A), puts)
            self.assertEqual(told, ("one", {**puts, "Last": t("f", A)}))
            told = made_one(t("f", A), v("X0"), puts)
            self.assertEqual(told, ("one", {**puts, "Last": t("f", A)}))
            self.assertEqual(made_one(v("X0"), v(f"X{many - 1}"), puts), ("one", puts))
            self.assertEqual(made_one(v("X0"), t("f", v("X1")), puts), ("ring", (), "Last"))
            puts = chain(many, t("f", A, B))
            self.assertEqual(made_one(v("X0"), t("f", A, B), puts), ("one", puts))
            self.assertEqual(made_one(v("X0"), t("f", A, C), puts),
                             ("part", (1,), ("app", "b", 0), ("app", "c", 0)))
            self.assertEqual(made_one(t("f", A, C), v("X0"), puts),
                             ("part", (1,), ("app", "c", 0), ("app", "b", 0)))

    def test_keys_that_do_not_stand_in_the_terms_stay(self):
        puts = {"P": A, "Q": t("f", v("R")), "S": v("P")}
        self.assertEqual(made_one(X, B, puts), ("one", {**puts, "X": B}))

    def test_marked_names(self):
        self.assertEqual(made_one(v("X.3"), X, {}), ("one", {"X.3": X}))
        self.assertEqual(made_one(v("X.3"), t("f", X), {}), ("one", {"X.3": t("f", X)}))
        self.assertEqual(made_one(v("X.3"), t("f", v("X.3")), {}), ("ring", (), "X.3"))


class Paths(OnesCase):
    def test_the_path_goes_from_the_whole_terms_inward(self):
        one = t("f", A, t("g", A, B, t("h", n(1), n(2))))
        other = t("f", A, t("g", A, B, t("h", n(1), n(3))))
        self.assert_told(one, other, {}, ("part", (1, 2, 1), n(2), n(3)))

    def test_each_of_four_kids(self):
        for place in range(4):
            kids = [A, A, A, A]
            kids[place] = B
            self.assert_told(t("f", A, A, A, A), t("f", *kids), {},
                             ("part", (place,), ("app", "a", 0), ("app", "b", 0)))

    def test_in_lists(self):
        self.assert_told(listed(A, B, C), listed(A, B, n(1)), {}, ("part", (1, 1, 0), ("app", "c", 0), n(1)))
        self.assert_told(listed(A, B), listed(A), {}, ("part", (1,), ("app", "[|]", 2), ("app", "[]", 0)))

    def test_deep_ones(self):
        self.assert_told(nested(40), plainly_put(t("f", X), {"X": nested(38)}), {},
                         ("part", (0,) * 38, ("app", "f", 1), ("app", "a", 0)))


class Rings(OnesCase):
    def test_straight(self):
        self.assert_told(X, t("f", X), {}, ("ring", (), "X"))
        self.assert_told(t("f", X), X, {}, ("ring", (), "X"))
        self.assert_told(t("f", A, X), t("f", A, t("g", B, t("h", X))), {}, ("ring", (1,), "X"))
        self.assert_told(X, cons(A, X), {}, ("ring", (), "X"))
        self.assert_told(X, t("+", X, n(1)), {}, ("ring", (), "X"))

    def test_through_other_unknowns(self):
        self.assert_told(t("f", X, Y), t("f", t("g", Y), t("g", X)), {}, ("ring", (1,), "Y"))
        self.assert_told(t("f", X, Y, Z), t("f", t("g", Y), t("g", Z), t("g", X)), {}, ("ring", (2,), "Z"))
        self.assert_told(t("f", X, X), t("f", Y, t("g", Y)), {}, ("ring", (1,), "Y"))
        self.assert_told(t("f", X, t("g", X)), t("f", Y, Y), {}, ("ring", (1,), "Y"))

    def test_through_old_puttings_in(self):
        self.assert_told(X, t("f", Y), {"Y": t("g", X)}, ("ring", (), "X"))
        self.assert_told(t("h", A, t("f", Y)), t("h", A, X), {"Y": t("g", X)}, ("ring", (1,), "X"))
        self.assert_told(X, Y, {"Y": t("g", X)}, ("ring", (), "X"))
        self.assert_told(Z, t("f", Y), {"Z": X, "Y": listed(A, X)}, ("ring", (), "X"))

    def test_the_same_unknown_is_no_ring(self):
        self.assert_one(t("f", X, t("g", X)), t("f", X, t("g", X)), {}, {"X": X})
        self.assert_one(t("f", X, X), t("f", Y, Y), {}, {"X": Y})
        self.assert_one(X, t("f", Z, Z), {"Y": t("f", X)}, {"Y": t("f", t("f", Z, Z))})

    def test_many_of_the_same_unknown_in_the_term(self):
        self.assert_told(t("f", X, A), t("f", t("g", Y, Y, Y, X), B), {}, ("ring", (0,), "X"))


class VeryManyParts(OnesCase):
    """A row of pairs by which each unknown is put in for twice the next one."""

    def in_a_row(self, many, name, puts):
        for k in range(many):
            one, other = v(f"{name}{k}"), t("f", v(f"{name}{k + 1}"), v(f"{name}{k + 1}"))
            told = made_one(one, other, puts)
            self.assertEqual(told[0], "one")
            puts = told[1]
        return puts

    def test_pair_by_pair_and_again_by_the_dict_told(self):
        puts = self.in_a_row(200, "X", {})
        self.assertEqual(puts, doubled(200))
        self.assertEqual(self.in_a_row(200, "X", puts), puts)
        for k in range(200):
            pair = (v(f"X{k}"), t("f", v(f"X{k + 1}"), v(f"X{k + 1}")))
            self.assertEqual(made_one(pair[1], pair[0], puts), ("one", puts))

    def test_in_one_pair_of_terms(self):
        ones = listed(*[v(f"X{k}") for k in range(9)])
        others = listed(*[t("f", v(f"X{k + 1}"), v(f"X{k + 1}")) for k in range(9)])
        self.assertLessEqual(count_parts(others), 40)
        told = made_one(ones, others, {})
        self.assertEqual(told[0], "one")
        self.assertEqual(parts_up_to(v("X0"), told[1], 5000), 2 ** 10 - 1)
        self.assertEqual(made_one(ones, others, told[1]), told)
        self.assertEqual(made_one(others, ones, told[1]), told)

    def test_in_one_pair_with_the_last_made_one_first(self):
        ones = listed(*[v(f"X{k}") for k in reversed(range(9))])
        others = listed(*[t("f", v(f"X{k + 1}"), v(f"X{k + 1}")) for k in reversed(range(9))])
        told = made_one(ones, others, {})
        self.assertEqual(parts_up_to(v("X0"), told[1], 5000), 2 ** 10 - 1)
        self.assertEqual(made_one(others, ones, told[1]), told)

    def test_from_both_sides_with_four_kids_each(self):
        lefts, rights = [], []
        for k in range(9):
            pair = [v(f"X{k}"), t("f", *[v(f"X{k + 1}")] * 4)]
            lefts.append(pair[k % 2])
            rights.append(pair[1 - k % 2])
        one, other = listed(*lefts), listed(*rights)
        self.assertLessEqual(max(count_parts(one), count_parts(other)), 40)
        told = made_one(one, other, {})
        self.assertEqual(told[0], "one")
        self.assertEqual(parts_up_to(v("X0"), told[1], 2 * 10 ** 3), 2001)
        self.assertEqual(made_one(one, other, told[1]), told)
        self.assertEqual(made_one(other, one, told[1]), told)

    def test_what_was_told_may_be_handed_in_again_whatever_its_parts(self):
        puts = doubled(4000)
        self.assertEqual(made_one(t("g", A, Y), t("g", Z, B), puts), ("one", {**puts, "Y": B, "Z": A}))
        self.assertEqual(made_one(v("X3997"), t("f", Y, Z), puts)[0], "one")
        self.assertEqual(walked(Y, made_one(v("X3997"), t("f", Y, Z), puts)[1]), puts["X3998"])
        self.assertEqual(made_one(v("X3998"), t("f", t("f", A, A), t("f", A, B)), puts),
                         ("part", (1, 1), ("app", "a", 0), ("app", "b", 0)))

    def test_two_rows_made_one(self):
        puts = {**doubled(1500), **doubled(1500, "Y")}
        told = made_one(v("X0"), v("Y0"), puts)
        self.assertEqual(told, ("one", {**puts, "X1500": v("Y1500")}))
        self.assertEqual(made_one(v("X0"), v("Y0"), told[1]), told)
        self.assertEqual(made_one(v("X0"), v("Y1"), puts), ("one", {**puts, "Y1500": puts["X1499"]}))

    def test_without_deep_recursion(self):
        puts = {**doubled(1500), **doubled(1500, "Y"), **{f"Z{k}": v(f"Z{k + 1}") for k in range(900)}}
        for one, other in ((v("X0"), v("Y0")), (v("X1500"), t("g", v("X0"))), (v("Z0"), v("X0")),
                           (nested(40), nested(40)),
                           (v("Z0"), nested(40)), (v("Y0"), v("Z0"))):
            self.assertEqual(called_within(120, lambda: made_one(one, other, puts)), made_one(one, other, puts))
        for one, other in ((nested(40), nested(40)), (X, nested(40)), (nested(40), X)):
            self.assertEqual(called_within(120, lambda: matched(one, other, {})), matched(one, other, {}))

    def test_a_ring_through_very_many_parts(self):
        puts = doubled(1500)
        self.assertEqual(made_one(v("X1500"), t("g", v("X0")), puts), ("ring", (), "X1500"))
        self.assertEqual(made_one(Y, t("g", v("X0")), puts), ("one", {**puts, "Y": t("g", v("X0"))}))

    def test_a_part_behind_very_many_parts(self):
        puts = {**doubled(1500), **doubled(1500, "Y")}
        self.assertEqual(made_one(t("h", v("X0"), A), t("h", v("Y0"), B), puts),
                         ("part", (1,), ("app", "a", 0), ("app", "b", 0)))
        puts.update({"X1500": A, "Y1500": B})
        self.assertEqual(made_one(v("X0"), v("Y0"), puts), ("part", (0,) * 1500, ("app", "a", 0), ("app", "b", 0)))


class BesideASlowOne(OnesCase):
    NAMES = ["X", "Y", "Z", "W", "V"]

    def test_some_pairs(self):
        source = random.Random(11)
        ends = {"one": 0, "part": 0, "ring": 0}
        while min(ends.values()) < 300:
            puts = some_puts(source, self.NAMES) if source.randrange(2) else {}
            one = some_term(source, self.NAMES, 3)
            other = some_term(source, self.NAMES, 3)
            if max(parts_up_to(one, puts, 40), parts_up_to(other, puts, 40)) <= 40:
                expected = slowly_made_one(one, other, puts)
                ends[expected[0]] += 1
                if expected[0] == "one":
                    readings = {name: plainly_put(v(name), expected[1]) for name in self.NAMES}
                    self.assert_one(one, other, puts, readings)
                else:
                    self.assert_told(one, other, puts, expected)

    def test_terms_that_are_alike_at_most_places(self):
        source = random.Random(12)
        shape = term_of("f(g(P, Q), h(Q, R, S), [P, S | R])")
        for again in range(800):
            puts = [{name: some_term(source, self.NAMES, 1) for name in "PQRS"} for side in range(2)]
            one, other = plainly_put(shape, puts[0]), plainly_put(shape, puts[1])
            expected = slowly_made_one(one, other, {})
            if expected[0] == "one":
                self.assert_one(one, other, {}, {name: plainly_put(v(name), expected[1]) for name in self.NAMES})
            else:
                self.assert_told(one, other, {}, expected)


class TheMostOpen(unittest.TestCase):
    NAMES = ["X", "Y", "Z"]
    GROUND = [A, n(0), t("f", A), t("f", n(0)), t("g", A, n(0)), t("f", t("f", A)), t("g", t("f", A), A)]

    def agreeing(self, one, other, puts):
        """The ways to put something without unknowns in for all, by which both are the same, that agree with puts."""
        for terms in itertools.product(self.GROUND, repeat=len(self.NAMES)):
            ground = dict(zip(self.NAMES, terms))
            agrees = all(plainly_put(term, ground) == ground[name] for name, term in puts.items())
            if agrees and plainly_put(one, ground) == plainly_put(other, ground):
                yield ground

    def some_small(self, source, depth):
        pick = source.randrange(7) if depth else source.randrange(5)
        if pick < 3:
            return v(self.NAMES[pick])
        if pick < 5:
            return (A, n(0))[pick - 3]
        return t("fg"[pick - 5], *[self.some_small(source, depth - 1) for again in range(pick - 4)])

    def test_whatever_makes_both_the_same(self):
        source = random.Random(13)
        met = 0
        for again in range(400):
            puts = {"X": self.some_small(source, 1)} if source.randrange(3) == 0 else {}
            if any(stands_in("X", term) for term in puts.values()):
                continue
            one, other = self.some_small(source, 2), self.some_small(source, 2)
            told = made_one(one, other, puts)
            for ground in self.agreeing(one, other, puts):
                met += 1
                self.assertEqual(told[0], "one", (one, other, puts, ground))
                for name in told[1]:
                    self.assertEqual(plainly_put(plainly_put(v(name), told[1]), ground), ground[name])
        self.assertGreater(met, 1000)


class Matched(unittest.TestCase):
    def assert_matched(self, one, other, puts, expected):
        before = copy.deepcopy(puts)
        with self.subTest(one=one, other=other, puts=puts):
            told = matched(one, other, puts)
            self.assertEqual(told, expected)
            self.assertEqual(puts, before)
            if expected is not None:
                self.assertIs(told.__class__, dict)
                self.assertIsNot(told, puts)

    def test_without_unknowns(self):
        for term in (A, n(5), NIL, t("f", A, n(-1)), listed(A, B)):
            self.assert_matched(term, term, {}, {})
            self.assert_matched(term, term, {"X": B}, {"X": B})
        for one, other in ((A, B), (n(1), n(2)), (A, n(1)), (n(1), A), (t("f", A), t("g", A)),
                           (t("f", A), t("f", A, A)),
                           (t("f", A), t("f", B)), (NIL, listed(A)), (A, t("a", B)), (t("f", A, B), t("f", A, C))):
            self.assert_matched(one, other, {}, None)
            self.assert_matched(other, one, {}, None)

    def test_its_unknowns_are_put_in_for(self):
        for term in (A, n(3), t("f", B, Y), NIL, Y, t("f", X), X):
            self.assert_matched(X, term, {}, {"X": term})
        self.assert_matched(t("f", X, Z), t("f", A, t("g", B)), {}, {"X": A, "Z": t("g", B)})
        self.assert_matched(t("f", X, Z), t("f", A, B), {"W": C}, {"W": C, "X": A, "Z": B})
        self.assert_matched(t("f", t("g", X), n(1)), t("f", t("g", listed(A)), n(1)), {}, {"X": listed(A)})

    def test_an_unknown_that_stands_twice(self):
        self.assert_matched(t("f", X, X), t("f", A, A), {}, {"X": A})
        self.assert_matched(t("f", X, X), t("f", A, B), {}, None)
        self.assert_matched(t("f", X, X), t("f", t("g", Y), t("g", Y)), {}, {"X": t("g", Y)})
        self.assert_matched(t("f", X, X), t("f", t("g", Y), t("g", Z)), {}, None)
        self.assert_matched(t("f", X, X), t("f", Y, Z), {}, None)
        self.assert_matched(t("f", X, X), t("f", Y, Y), {}, {"X": Y})
        self.assert_matched(t("f", X, t("g", X)), t("f", n(1), t("g", n(2))), {}, None)

    def test_an_unknown_that_is_a_key_already(self):
        self.assert_matched(X, A, {"X": A}, {"X": A})
        self.assert_matched(X, B, {"X": A}, None)
        self.assert_matched(X, Y, {"X": A}, None)
        self.assert_matched(X, Y, {"X": Y}, {"X": Y})
        self.assert_matched(t("f", X, Z), t("f", A, B), {"X": A}, {"X": A, "Z": B})
        self.assert_matched(t("f", X, Z), t("f", A, B), {"Z": A}, None)

    def test_what_is_put_in_is_not_looked_into(self):
        self.assert_matched(X, A, {"X": Y, "Y": A}, None)
        self.assert_matched(X, Y, {"X": Y, "Y": A}, {"X": Y, "Y": A})
        self.assert_matched(X, t("f", X), {}, {"X": t("f", X)})
        self.assert_matched(t("f", X, X), t("f", t("g", X), t("g", X)), {}, {"X": t("g", X)})
        self.assert_matched(X, t("f", X), {"X": t("f", X)}, {"X": t("f", X)})
        self.assert_matched(X, t("f", t("f", X)), {"X": t("f", X)}, None)
        self.assert_matched(t("f", X, Y), t("f", Y, X), {}, {"X": Y, "Y": X})
        self.assert_matched(t("f", X, Y), t("f", Y, X), {"X": Y, "Y": X}, {"X": Y, "Y": X})
        self.assert_matched(X, X, {"X": X}, {"X": X})

    def test_the_other_ones_unknowns_are_like_words(self):
        self.assert_matched(A, X, {}, None)
        self.assert_matched(n(1), X, {}, None)
        self.assert_matched(t("f", A), X, {}, None)
        self.assert_matched(t("f", A), t("f", X), {}, None)
        self.assert_matched(t("f", A), t("f", X), {"X": A}, None)
        self.assert_matched(A, X, {"X": A}, None)
        self.assert_matched(t("f", X, A), t("f", A, X), {}, None)
        self.assert_matched(t("f", X, Y), t("f", Y, Y), {}, {"X": Y, "Y": Y})
        self.assert_matched(t("f", X, X), t("f", X, X), {}, {"X": X})
        self.assert_matched(t("f", X, X), t("f", X, Y), {}, None)

    def test_the_new_dict_is_the_askers_own(self):
        puts = {"Z": A}
        told = matched(X, B, puts)
        told["W"] = C
        told["Z"] = C
        self.assertEqual(puts, {"Z": A})
        self.assertEqual(matched(X, B, puts), {"Z": A, "X": B})
        same = matched(A, A, puts)
        same["W"] = C
        self.assertEqual(puts, {"Z": A})

    def test_beside_a_slow_one(self):
        source = random.Random(14)
        ends = {True: 0, False: 0}
        while min(ends.values()) < 500:
            one = some_term(source, ["X", "Y", "Z"], 3)
            puts = {name: some_term(source, ["X", "Y"], 1) for name in "XW" if source.randrange(4) == 0}
            into = {name: some_term(source, ["X", "Y", "Z"], 1) for name in "XYZ"}
            other = self.put_once(one, into) if source.randrange(3) else some_term(source, ["X", "Y"], 3)
            if max(count_parts(one), count_parts(other)) <= 40:
                expected = slowly_matched(one, other, puts)
                ends[expected is None] += 1
                self.assert_matched(one, other, puts, expected)

    def put_once(self, term, into):
        if term[0] == "app":
            return t(term[1], *[self.put_once(kid, into) for kid in term[2]])
        return into[term[1]] if term[0] == "any" else term

    def test_deep_ones(self):
        self.assert_matched(nested(40), nested(40), {}, {})
        self.assert_matched(nested(40), nested(39), {}, None)
        self.assert_matched(t("f", X), nested(40), {}, {"X": nested(39)})


class Everywhere(unittest.TestCase):
    def test_the_new_dict_is_the_askers_own(self):
        puts = {"Z": A}
        for one, other in ((X, B), (A, A), (X, X), (X, Y)):
            told = made_one(one, other, puts)
            told[1]["W"] = C
            told[1]["Z"] = C
            self.assertEqual(puts, {"Z": A})
            again = made_one(one, other, puts)
            self.assertEqual(again[1]["Z"], A)
            self.assertNotIn("W", again[1])

    def test_the_dict_handed_in_changed_later_changes_no_answer_given(self):
        puts = {"Z": A}
        told = made_one(X, B, puts)
        match = matched(X, B, puts)
        puts["Z"] = C
        puts["W"] = C
        self.assertEqual(told, ("one", {"Z": A, "X": B}))
        self.assertEqual(match, {"Z": A, "X": B})

    def test_what_is_handed_in_stays_where_it_parts_too(self):
        puts = {"Z": A}
        made_one(t("f", X, Y, A), t("f", A, B, B), puts)
        made_one(t("f", X, Y), t("f", A, t("g", Y)), puts)
        matched(t("f", X, Y, A), t("f", A, B, B), puts)
        self.assertEqual(puts, {"Z": A})

    def test_the_same_question_has_the_same_answer(self):
        one, other = t("f", X, Y, Z), t("f", Y, Z, t("g", v("W")))
        tolds = [made_one(one, other, {}) for again in range(3)]
        self.assertEqual(tolds[0], tolds[1])
        self.assertEqual(tolds[0], tolds[2])
        self.assertEqual(list(tolds[0][1].items()), list(tolds[2][1].items()))
        matches = [matched(one, other, {}) for again in range(3)]
        self.assertEqual(list(matches[0].items()), list(matches[2].items()))

    def test_what_is_told_is_written_out(self):
        told = made_one(term_of("f(X, g(Y), [Z | T])"), term_of("f(g(Y), X, [1, 2])"), {})
        self.assertEqual(written_out(term_of("h(X, Y, Z, T)"), told[1]), term_of("h(g(Y), Y, 1, [2])"))


if __name__ == "__main__":
    unittest.main()
