import copy
import itertools
import unittest

from goaltrail.layers import layers_of
from tests.helper import FAMILY, LISTS, Chance, assert_refused, called_within, rules_of, t


def word_of(goal):
    return (goal[1], len(goal[2]))


def slow_leanings(rules):
    """Tuples of a word, one it leans on, and whether by a not, as the document tells them."""
    found = set()
    for head, goals in rules:
        for goal in goals:
            if goal[1] == "not":
                found.add((word_of(head), word_of(goal[2][0]), True))
            elif goal[1] not in ("keep", "=", ":=", "<", "<="):
                found.add((word_of(head), word_of(goal), False))
    return found


def slow_words(rules):
    return {word_of(head) for head, goals in rules} | {other for one, other, by_not in slow_leanings(rules)}


def are_layers(rules, layers):
    return all(layers[one] > layers[other] if by_not else layers[one] >= layers[other]
               for one, other, by_not in slow_leanings(rules))


def slow_layers(rules):
    """The least layers, found among all that could be; None where there are none."""
    words = sorted(slow_words(rules))
    rows = [row for row in itertools.product(range(len(words)), repeat=len(words))
            if are_layers(rules, dict(zip(words, row)))]
    return dict(zip(words, [min(layers) for layers in zip(*rows)])) if rows else None


class LayersCase(unittest.TestCase):
    def assert_layers(self, texts, layers):
        with self.subTest(texts):
            told = layers_of(rules_of(*texts))
            self.assertIs(told.__class__, dict)
            self.assertEqual(told, layers)
            self.assertTrue(all(layer.__class__ is int for layer in told.values()))

    def assert_ring(self, rules, *rings):
        """The ring that is told is one; where rings are handed in, it is one of them."""
        with self.subTest(rules):
            ring = assert_refused(self, "NotLayered", layers_of, rules).ring
            self.assertIs(ring.__class__, list)
            self.assertTrue(ring)
            self.assertTrue(all(word.__class__ is tuple for word in ring))
            self.assertEqual(len(ring), len(set(ring)))
            leanings = slow_leanings(rules)
            pairs = list(zip(ring, ring[1:] + ring[:1]))
            for one, other in pairs:
                self.assertTrue((one, other, False) in leanings or (one, other, True) in leanings)
            self.assertTrue(any((one, other, True) in leanings for one, other in pairs))
            if rings:
                self.assertIn(ring, rings)


class Layers(LayersCase):
    def test_no_rules(self):
        self.assert_layers((), {})

    def test_without_nots_all_lie_on_the_ground(self):
        self.assert_layers(("p",), {("p", 0): 0})
        self.assert_layers(LISTS, {("app", 3): 0, ("in", 2): 0})
        self.assert_layers(FAMILY, {("child", 2): 0, ("grand", 2): 0, ("below", 2): 0})
        self.assert_layers(("p <- p", "q <- r, p", "r <- q"), {("p", 0): 0, ("q", 0): 0, ("r", 0): 0})

    def test_words_that_stand_only_as_goals(self):
        self.assert_layers(("p <- q(a), r(X, Y)",), {("p", 0): 0, ("q", 1): 0, ("r", 2): 0})

    def test_words_that_stand_only_within_nots(self):
        self.assert_layers(("p <- not(q(a))",), {("p", 0): 1, ("q", 1): 0})

    def test_the_least_numbers(self):
        self.assert_layers(("p <- not(q)", "q <- not(r)", "r"), {("p", 0): 2, ("q", 0): 1, ("r", 0): 0})
        self.assert_layers(("r", "q <- not(r)", "p <- not(q)", "s <- r, p", "t <- s, not(r)", "u <- not(t)", "v <- r"),
                           {("r", 0): 0, ("q", 0): 1, ("p", 0): 2, ("s", 0): 2, ("t", 0): 2, ("u", 0): 3, ("v", 0): 0})
        self.assert_layers(("p <- q", "p <- not(q)", "q"), {("p", 0): 1, ("q", 0): 0})

    def test_a_ring_without_a_not_is_one_layer(self):
        self.assert_layers(("p <- q", "q <- r", "r <- p, not(s)", "s <- not(t)"),
                           {("p", 0): 2, ("q", 0): 2, ("r", 0): 2, ("s", 0): 1, ("t", 0): 0})

    def test_other_goals_give_no_layer(self):
        self.assert_layers(("p(X) <- keep, X = a, X := 1, X < 2, X <= 3",), {("p", 1): 0})
        self.assert_layers(("p(X) <- X = q(X), X = not(r)",), {("p", 1): 0})

    def test_numbers_of_kids_are_told_apart(self):
        self.assert_layers(("p <- not(p(a))", "p(X) <- not(p(X, X))"), {("p", 0): 2, ("p", 1): 1, ("p", 2): 0})

    def test_long_rows_of_leaning(self):
        rules = [(t(f"p{k}"), (t("not", t(f"p{k + 1}")),)) for k in range(40)]
        layers = {(f"p{k}", 0): 40 - k for k in range(41)}
        self.assertEqual(called_within(60, lambda: layers_of(rules)), layers)
        self.assertEqual(called_within(60, lambda: layers_of(rules[::-1])), layers)
        rules = [(t(f"p{k}"), (t(f"p{k + 1}"),)) for k in range(39)] + [(t("p39"), (t("not", t("p40")),))]
        self.assertEqual(layers_of(rules), {(f"p{k}", 0): 1 if k < 40 else 0 for k in range(41)})

    def test_forty_rules_of_six_goals(self):
        rules = [(t(f"p{k}"), tuple(t("not", t(f"p{k + step}")) for step in range(1, 7))) for k in range(40)]
        self.assertEqual(layers_of(rules), {(f"p{k}", 0): max(40 - k, 0) for k in range(46)})
        rules = [(t(f"p{k}"), tuple(t(f"p{(k * 7 + step) % 40}") for step in range(1, 7))) for k in range(40)]
        self.assertEqual(set(layers_of(rules).values()), {0})


class Rings(LayersCase):
    def test_of_one(self):
        self.assert_ring(rules_of("p <- not(p)"), [("p", 0)])
        self.assert_ring(rules_of("q", "p(X, Y) <- q, p(Y, X), not(p(a, a))"), [("p", 2)])

    def test_of_several(self):
        self.assert_ring(rules_of("p <- not(q)", "q <- p"), [("p", 0), ("q", 0)], [("q", 0), ("p", 0)])
        self.assert_ring(rules_of("p <- q", "q <- r, s", "r <- not(p)", "s <- not(t)"))
        self.assert_ring(rules_of("p <- not(q)", "q <- not(r)", "r <- not(p)"))
        self.assert_ring(rules_of("a <- b", "b <- c, a", "c <- d, b", "d <- not(a), d", "e <- not(b)"))

    def test_by_a_not_that_is_not_the_first(self):
        self.assert_ring(rules_of("a <- b", "b <- a", "a <- not(c)", "c <- d", "d <- b"))

    def test_the_same_leaning_with_and_without_a_not(self):
        self.assert_ring(rules_of("p <- q, not(q)", "q <- p"))

    def test_kids_told_apart(self):
        self.assert_ring(rules_of("p <- not(p(a))", "p(X) <- p"), [("p", 0), ("p", 1)], [("p", 1), ("p", 0)])

    def test_a_long_ring(self):
        rules = [(t(f"p{k}"), (t(f"p{(k + 1) % 40}"),)) for k in range(39)] + [(t("p39"), (t("not", t("p0")),))]
        self.assert_ring(rules)
        self.assertEqual(len(assert_refused(self, "NotLayered", layers_of, rules).ring), 40)

    def test_the_ring_is_the_askers_own(self):
        rules = rules_of("p <- not(q)", "q <- p")
        first = assert_refused(self, "NotLayered", layers_of, rules)
        kept = list(first.ring)
        first.ring.clear()
        self.assertEqual(assert_refused(self, "NotLayered", layers_of, rules).ring, kept)


class BesideASlowOne(LayersCase):
    def test_small_programs(self):
        chance = Chance(81)
        ends = {True: 0, False: 0}
        for again in range(400):
            words = [t(name) for name in "abcd"]
            rules = [(chance.pick(*words), tuple(chance.pick(t("not", goal), goal, goal) for goal in
                                                 [chance.pick(*words) for more in range(chance.under(3))]))
                     for rule in range(chance.under(6))]
            layers = slow_layers(rules)
            ends[layers is None] += 1
            if layers is None:
                self.assert_ring(rules)
            else:
                self.assertEqual(layers_of(rules), layers)
        self.assertGreater(min(ends.values()), 50)

    def test_programs_with_goals_of_every_kind(self):
        chance = Chance(82)
        ends = {True: 0, False: 0}
        for again in range(500):
            rules = chance.rules()
            try:
                layers = layers_of(rules)
            except ValueError:
                ends[False] += 1
                self.assert_ring(rules)
                continue
            ends[True] += 1
            self.assertEqual(set(layers), slow_words(rules))
            self.assertTrue(are_layers(rules, layers))
            for word in layers:
                self.assertFalse(layers[word] and are_layers(rules, {**layers, word: layers[word] - 1}))
        self.assertGreater(min(ends.values()), 50)


class Everywhere(LayersCase):
    def test_what_is_handed_in_stays_and_what_is_given_is_the_askers_own(self):
        rules = [(t("p"), [t("q"), t("not", t("r"))])]
        before = copy.deepcopy(rules)
        first = layers_of(rules)
        first.clear()
        self.assertEqual(layers_of(rules), {("p", 0): 1, ("q", 0): 0, ("r", 0): 0})
        self.assertEqual(rules, before)


if __name__ == "__main__":
    unittest.main()
