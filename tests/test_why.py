import copy
import unittest

from goaltrail.looker import lets_by
from goaltrail.search import search
from goaltrail.why import why
from tests.helper import (
    FACTS, FAMILY, LISTS, Chance, assert_refused, called, called_within, count_parts, goals_of, n, names_in, nested,
    plainly_put, rules_of, slow_sum, slowly_anew, slowly_made_one, t, term_of, v,
)
from tests.test_looker import FALSE, PART, RING, SlowLooker
from tests.test_search import slowly_searched


class TooGreat(Exception):
    """A goal in the rows would have more than forty parts."""


# Reasons as a tree, by the document's words and in the plainest way: for the tests alone.

class SlowWhy:
    def __init__(self, rules):
        self.rules = rules
        self.uses = 0

    def new_rule(self, told):
        self.uses += 1
        terms = [told[0]] + list(told[1])
        names = {name: f"{name}#{self.uses}" for term in terms for name in names_in(term)}
        return [called(term, names) for term in terms]

    def small(self, terms):
        if any(count_parts(term) > 40 for term in terms):
            raise TooGreat
        return terms

    def first_way(self, goal):
        """The way of the goal's first answer, None where it has none."""
        answers = slowly_searched(self.rules, [goal], 400, 1)[0]
        return answers[0][1] if answers else None

    def yes(self, goal, way):
        way, puts, taken = list(way), {}, []

        def go(goal):
            """The tree of a goal, whose own goals come next on the way."""
            nonlocal puts
            number = way.pop(0)
            mine = len(taken)
            taken.append(goal)
            goal = plainly_put(goal, puts)
            if number:
                head, *goals = self.new_rule(self.rules[number - 1])
                puts = slowly_made_one(goal, head, puts)[1]
                return (mine, number, [go(more) for more in goals])
            if goal[1] == "not":
                return (mine, 0, [self.no([goal[2][0]])])
            if goal[1] == "=":
                puts = slowly_made_one(*goal[2], puts)[1]
            if goal[1] == ":=":
                puts = slowly_made_one(goal[2][0], n(slow_sum(goal[2][1])), puts)[1]
            return (mine, 0, [])

        tree = go(goal)
        goals = slowly_anew(self.small([plainly_put(one, puts) for one in taken]))

        def with_goals(tree):
            if tree[0] == "no":
                return tree
            return ("yes", goals[tree[0]], tree[1], [with_goals(kid) for kid in tree[2]])
        return with_goals(tree)

    def no(self, goals):
        goals = slowly_anew(self.small(goals))
        first, rest = goals[0], goals[1:]
        if first[1] == "not":
            way = self.first_way(first[2][0])
            if way is not None:
                return ("no", goals, [("held", self.yes(first[2][0], way))])
            return ("no", goals, [("fell", self.no([first[2][0]])), ("on", self.no(rest))])
        if first[1] in ("<", "<="):
            left, right = map(slow_sum, first[2])
            so = left < right or (first[1] == "<=" and left == right)
            return ("no", goals, [("on", self.no(rest)) if so else FALSE])
        if first[1] == "=":
            return ("no", goals, [self.fall(*first[2], rest)])
        if first[1] == ":=":
            return ("no", goals, [self.fall(first[2][0], n(slow_sum(first[2][1])), rest)])
        falls = []
        for told in self.rules:
            head, *more = self.new_rule(told)
            if (head[1], len(head[2])) == (first[1], len(first[2])):
                falls.append(self.fall(first, head, more + rest))
        return ("no", goals, falls)

    def fall(self, one, other, goals):
        told = slowly_made_one(one, other, {})
        if told[0] != "one":
            return (told[0],)
        return ("on", self.no([plainly_put(goal, told[1]) for goal in goals]))


def slowly_why(rules, goal, bound):
    """The word and the tree of reasons; None as tree where there are none."""
    answers, end, count = slowly_searched(rules, [goal], bound, 1)
    try:
        if answers:
            return ("yes", SlowWhy(rules).yes(goal, answers[0][1]))
        if end == ("all",):
            return ("no", SlowWhy(rules).no([goal]))
    except TooGreat:
        return ("big", None)
    return (end[0], None)


def tree_of(rows):
    """The rows as a tree from the first one on; each row stands in it once."""
    used = []

    def go(place):
        used.append(place)
        row = rows[place]
        if row[0] == "yes":
            return ("yes", row[1], row[2], [go(kid) for kid in row[3]])
        return ("no", slowly_anew(row[1]), [(fall[0], *map(go, fall[1:])) for fall in row[2]])

    tree = go(0)
    assert sorted(used) == list(range(len(rows))), used
    return tree


class WhyCase(unittest.TestCase):
    def assert_form(self, told):
        self.assertIs(told.__class__, tuple)
        self.assertEqual(len(told), 2)
        self.assertIs(told[1].__class__, list)
        for row in told[1]:
            self.assertIs(row.__class__, tuple)
            if row[0] == "yes":
                self.assertEqual([part.__class__ for part in row], [str, tuple, int, list])
            else:
                self.assertEqual([part.__class__ for part in row], [str, list, list])
                self.assertTrue(all(fall.__class__ is tuple for fall in row[2]))

    def assert_why(self, rules, goal, bound=200):
        told = why(rules, goal, bound)
        self.assert_form(told)
        word, tree = slowly_why(rules, goal, bound)
        self.assertEqual(told[0], word, (rules, goal, bound))
        if tree is None:
            self.assertEqual(told[1], [])
        else:
            self.assertEqual(tree_of(told[1]), tree, (rules, goal, bound))
            self.assertIs(lets_by(rules, told[1]), True)
            self.assertIs(SlowLooker(rules, told[1]).lets_by(), True)
        return told

    def assert_rows(self, texts, goal, word, *rows):
        with self.subTest(goal=goal, rules=texts):
            told = self.assert_why(rules_of(*texts), term_of(goal))
            self.assertEqual(told[0], word)
            expected = [(row[0], term_of(row[1]) if row[0] == "yes" else goals_of(row[1]), *row[2:]) for row in rows]
            self.assertEqual(tree_of(told[1]), tree_of(expected))


class Yes(WhyCase):
    def test_facts(self):
        self.assert_rows(FACTS, "p(b)", "yes", ("yes", "p(b)", 2, []))
        self.assert_rows(FACTS, "p(X)", "yes", ("yes", "p(a)", 1, []))
        self.assert_rows(("p(X, Y)",), "p(B, A)", "yes", ("yes", "p(U1, U2)", 1, []))
        self.assert_rows(("p(X, X)",), "p(U2, U1)", "yes", ("yes", "p(U1, U1)", 1, []))

    def test_a_row_for_each_goal_on_the_way(self):
        self.assert_rows(("p(X) <- q(X), r(X)", "q(a)", "q(b)", "r(b)"), "p(X)", "yes",
                         ("yes", "p(b)", 1, [1, 2]), ("yes", "q(b)", 3, []), ("yes", "r(b)", 4, []))
        self.assert_rows(("p <- q, q", "q"), "p", "yes",
                         ("yes", "p", 1, [1, 2]), ("yes", "q", 2, []), ("yes", "q", 2, []))
        self.assert_rows(("p <- q, s", "q <- r, s", "r", "s"), "p", "yes", ("yes", "p", 1, [1, 4]),
                         ("yes", "q", 2, [2, 3]), ("yes", "r", 3, []), ("yes", "s", 4, []), ("yes", "s", 4, []))

    def test_goals_of_marks(self):
        self.assert_rows(("p(X, Y) <- X = f(Y, Z), Y := 1 + 1, Y < 3, 2 <= Y",), "p(A, B)", "yes",
                         ("yes", "p(f(2, U1), 2)", 1, [1, 2, 3, 4]), ("yes", "f(2, U1) = f(2, U1)", 0, []),
                         ("yes", "2 := 1 + 1", 0, []), ("yes", "2 < 3", 0, []), ("yes", "2 <= 2", 0, []))

    def test_as_it_reads_at_the_answer(self):
        self.assert_rows(("p(X) <- q(X, Y), r(Y)", "q(f(A), A)", "r(b)"), "p(X)", "yes",
                         ("yes", "p(f(b))", 1, [1, 2]), ("yes", "q(f(b), b)", 2, []), ("yes", "r(b)", 3, []))

    def test_told_anew_all_together(self):
        self.assert_rows(("p(X) <- q(Y, X), r(Z, Y)", "q(A, B)", "r(A, B)"), "p(W)", "yes",
                         ("yes", "p(U1)", 1, [1, 2]), ("yes", "q(U2, U1)", 2, []), ("yes", "r(U3, U2)", 3, []))

    def test_nots(self):
        self.assert_rows(("p(X) <- q(X), not(r(X))", "q(a)", "r(b)"), "p(X)", "yes",
                         ("yes", "p(a)", 1, [1, 2]), ("yes", "q(a)", 2, []), ("yes", "not(r(a))", 0, [3]),
                         ("no", "r(a)", [PART]))
        self.assert_rows(("p <- not(q)", "q <- not(r), r", "q <- s(X), s(f(X))", "r", "s(a)"), "p", "yes",
                         ("yes", "p", 1, [1]), ("yes", "not(q)", 0, [2]), ("no", "q", [("on", 3), ("on", 4)]),
                         ("no", "not(r), r", [("held", 5)]), ("no", "s(X), s(f(X))", [("on", 6)]),
                         ("yes", "r", 4, []), ("no", "s(f(a))", [PART]))

    def test_the_same_not_twice(self):
        self.assert_rows(("p <- not(z), not(z)",), "p", "yes",
                         ("yes", "p", 1, [1, 3]), ("yes", "not(z)", 0, [2]), ("no", "z", []),
                         ("yes", "not(z)", 0, [4]), ("no", "z", []))

    def test_the_first_answer(self):
        self.assert_rows(("p(X) <- q(X), not(r(X))", "p(c)", "q(a)", "q(b)", "r(a)", "r(b)"), "p(X)", "yes",
                         ("yes", "p(c)", 2, []))


class No(WhyCase):
    def test_without_rules(self):
        self.assert_rows((), "p(X)", "no", ("no", "p(U1)", []))
        self.assert_rows(("p(a)", "q"), "p", "no", ("no", "p", []))

    def test_part_and_ring(self):
        self.assert_rows(FACTS, "p(d)", "no", ("no", "p(d)", [PART, PART, PART]))
        self.assert_rows(("p(X, X)", "p(a, b)"), "p(Y, f(Y))", "no", ("no", "p(Y, f(Y))", [RING, PART]))

    def test_on(self):
        self.assert_rows(("p(X) <- q(X), r(X)", "q(a)", "q(b)", "r(c)"), "p(X)", "no",
                         ("no", "p(X)", [("on", 1)]), ("no", "q(X), r(X)", [("on", 2), ("on", 3)]),
                         ("no", "r(a)", [PART]), ("no", "r(b)", [PART]))

    def test_a_row_of_its_own_for_each_on(self):
        self.assert_rows(("p <- q, z", "p <- q, z", "q", "q"), "p", "no",
                         ("no", "p", [("on", 1), ("on", 2)]), ("no", "q, z", [("on", 3), ("on", 4)]),
                         ("no", "q, z", [("on", 5), ("on", 6)]), ("no", "z", []), ("no", "z", []), ("no", "z", []),
                         ("no", "z", []))

    def test_goals_of_marks(self):
        self.assert_rows(("p(X) <- a = b", "p(X) <- X = f(X)", "p(X) <- 2 < 1", "p(X) <- 2 <= 1", "p(X) <- 1 := 2",
                          "p(X) <- X = a, Y := 1, Y < 2, 1 <= Y, z"), "p(A)", "no",
                         ("no", "p(A)", [("on", 1), ("on", 2), ("on", 3), ("on", 4), ("on", 5), ("on", 6)]),
                         ("no", "a = b", [PART]), ("no", "X = f(X)", [RING]), ("no", "2 < 1", [FALSE]),
                         ("no", "2 <= 1", [FALSE]), ("no", "1 := 2", [PART]),
                         ("no", "X = a, Y := 1, Y < 2, 1 <= Y, z", [("on", 7)]),
                         ("no", "Y := 1, Y < 2, 1 <= Y, z", [("on", 8)]), ("no", "1 < 2, 1 <= 1, z", [("on", 9)]),
                         ("no", "1 <= 1, z", [("on", 10)]), ("no", "z", []))

    def test_nots(self):
        self.assert_rows(("p <- not(q)", "q <- r(X), s(X)", "r(a)", "r(b)", "s(b)"), "p", "no",
                         ("no", "p", [("on", 1)]), ("no", "not(q)", [("held", 2)]), ("yes", "q", 2, [3, 4]),
                         ("yes", "r(b)", 4, []), ("yes", "s(b)", 5, []))
        self.assert_rows(("p <- not(q), z", "q <- z"), "p", "no",
                         ("no", "p", [("on", 1)]), ("no", "not(q), z", [("fell", 2), ("on", 3)]),
                         ("no", "q", [("on", 4)]), ("no", "z", []), ("no", "z", []))


class Ends(WhyCase):
    def test_spent(self):
        self.assertEqual(self.assert_why(rules_of("p <- p"), t("p")), ("spent", []))
        self.assertEqual(self.assert_why(rules_of("p <- q", "q"), t("p"), 1), ("spent", []))
        self.assertEqual(self.assert_why(rules_of("p"), t("p"), 0), ("spent", []))
        self.assertEqual(self.assert_why(rules_of("p <- q", "q"), t("p"), 2)[0], "yes")
        self.assertEqual(self.assert_why(rules_of("p <- not(q)"), t("p"), 2), ("spent", []))
        self.assertEqual(self.assert_why(rules_of("p <- not(q)"), t("p"), 3)[0], "yes")

    def test_the_bound_left_out_is_two_hundred(self):
        rules = rules_of("p(N) <- 0 < N, M := N - 1, p(M)", "p(0)")
        # Three goals for each number above nought, two for nought.
        self.assertEqual(why(rules, term_of("p(66)"))[0], "yes")
        self.assertEqual(why(rules, term_of("p(66)"), 199), ("spent", []))
        self.assertEqual(why(rules, term_of("p(67)")), ("spent", []))
        self.assertEqual(why(rules, term_of("p(67)"), 203)[0], "yes")

    def test_fault(self):
        self.assertEqual(self.assert_why(rules_of("p <- X := a"), t("p")), ("fault", []))
        self.assertEqual(self.assert_why(rules_of("p <- not(q(X))"), t("p")), ("fault", []))
        self.assertEqual(self.assert_why(rules_of("p", "p <- X := a"), t("p"))[0], "yes")

    def test_big(self):
        rules = rules_of("d(X, f(X, X))", "p(X) <- d(X, Y), p(Y)")
        self.assertEqual(self.assert_why(rules, term_of("p(a)")), ("big", []))
        rules = [(t("p", v("X")), (t("q", v("X")),)), (t("q", nested(23)), ()), (t("r", t("f", v("X"), v("X"))), ())]
        self.assertEqual(self.assert_why(rules, term_of("p(X)"))[0], "yes")

    def test_a_goal_in_the_rows_that_would_be_too_great(self):
        # Each goal is small where it is taken up, and the answer too; q(Y) is great as it reads at the answer.
        rules = [(t("p"), (t("q", v("X"), v("Y"), v("Z")), t("=", v("X"), nested(19)))),
                 (t("q", v("X"), v("X"), v("X")), ())]
        self.assertEqual(search(rules, [t("p")])[1], ("all",))
        self.assertEqual(self.assert_why(rules, t("p")), ("big", []))
        rules[0] = (t("p"), (t("q", v("X"), v("Y"), v("Z")), t("=", v("X"), nested(13))))
        self.assertEqual(self.assert_why(rules, t("p"))[0], "yes")
        # In a no row: a goal that is still to be asked, and never taken up.
        for many, word in ((12, "no"), (13, "no"), (14, "big")):
            rules = [(t("p"), (t("=", v("X"), nested(many)), t("z"), t("q", v("X"), v("X"), v("X"))))]
            self.assertEqual(self.assert_why(rules, t("p"))[0], word)

    def test_keeps_are_refused(self):
        for texts in (("p <- keep",), ("p", "q <- r, keep, s"), ("p <- p", "q <- keep")):
            assert_refused(self, "HasKeep", why, rules_of(*texts), t("p"))
            assert_refused(self, "HasKeep", why, rules_of(*texts), t("z"), 0)

    def test_rules_without_layers(self):
        self.assertEqual(self.assert_why(rules_of("p <- not(p)", "q"), t("q"))[0], "yes")
        self.assertEqual(self.assert_why(rules_of("p <- not(p)"), t("p")), ("spent", []))
        self.assert_why(rules_of("p(X) <- X = b, not(p(a))", "p(a) <- z"), term_of("p(b)"))


class BesideASlowOne(WhyCase):
    def test_some_programs(self):
        chance = Chance(101, keeps=False)
        words = {}
        for again in range(2500):
            rules, goal = chance.rules(), chance.named()
            told = self.assert_why(rules, goal, chance.pick(5, 20, 40, 60))
            words[told[0]] = words.get(told[0], 0) + 1
        self.assertEqual(len(words), 5)
        self.assertGreater(min(words.values()), 30, words)

    def test_programs_by_hand(self):
        rules = rules_of(*LISTS, *FAMILY, "leaf(X) <- child(Y, X), not(has(X))", "has(X) <- child(X, Y)",
                         "odd(N) <- 0 < N, M := N - 1, not(odd(M))", "only(X, [X])",
                         "all([]) <- leaf(X)", "all([H | T]) <- not(has(H)), all(T)")
        for text in ("app([1, 2], X, [1, 2, 3])", "app([1], [2], [3])", "in(c, [a, b])", "in(c, [a, c])", "leaf(X)",
                     "leaf(cat)", "below(fay, X)", "below(ann, fay)", "odd(7)", "odd(8)", "grand(X, X)",
                     "all([dan, eve])", "all([dan, bob])", "only(X, [Y, Z])"):
            for bound in (10, 60):
                self.assert_why(rules, term_of(text), bound)


class Long(WhyCase):
    """Four hundred goals, without deep recursion."""

    def long_why(self, rules, goal):
        told = called_within(90, lambda: why(rules, goal, 400))
        self.assert_form(told)
        if told[1]:
            self.assertIs(called_within(90, lambda: lets_by(rules, told[1])), True)
        return told

    def test_rows_of_goals(self):
        rules = rules_of("n(0)", "n(N) <- 0 < N, M := N - 1, n(M)", "m(N) <- 0 < N, M := N - 1, m(M)",
                         "k(N) <- 0 < N, M := N - 1, k(M), s, s", "k(0)")
        told = self.long_why(rules, term_of("n(132)"))
        self.assertEqual((told[0], len(told[1])), ("yes", 397))
        told = self.long_why(rules, term_of("m(132)"))
        self.assertEqual((told[0], len(told[1])), ("no", 398))
        told = self.long_why(rules, term_of("k(60)"))
        self.assertEqual((told[0], len(told[1])), ("no", 183))

    def test_nots_within_nots(self):
        rules = rules_of("even(0)", "even(N) <- 0 < N, M := N - 1, not(even(M))")
        for number, word in ((98, "yes"), (99, "no")):
            self.assertEqual(self.long_why(rules, t("even", n(number)))[0], word)


class Everywhere(WhyCase):
    def test_what_is_handed_in_stays(self):
        rules = [(t("p", v("X")), [t("q", v("X")), t("not", t("r", v("X")))]), (t("q", t("a")), [])]
        for goal in (term_of("p(X)"), term_of("p(b)")):
            before = copy.deepcopy((rules, goal))
            told = why(rules, goal)
            self.assertEqual((rules, goal), before)
            self.assertIs(lets_by(rules, told[1]), True)

    def test_what_is_given_is_the_askers_own(self):
        rules = rules_of("p(X) <- q(X), not(r(X)), not(r(X))", "q(a)", "q(b)", "r(b)", "n(X) <- p(X), z, z",
                         "n(X) <- p(X), z, z")
        for text in ("p(X)", "p(c)", "n(a)"):
            told, kept = why(rules, term_of(text)), why(rules, term_of(text))
            self.assertEqual(told, kept)
            lists = [part for row in told[1] for part in row if part.__class__ is list]
            self.assertEqual(len(lists), len({id(one) for one in lists}))
            for one in lists:
                one.append(1)
            told[1].clear()
            self.assertEqual(why(rules, term_of(text)), kept)
        spent = why(rules, term_of("p(X)"), 0)
        spent[1].append(1)
        self.assertEqual(why(rules, term_of("p(X)"), 0), ("spent", []))

    def test_names_that_were_marked(self):
        rules = [(t("p", v("U1.1"), v("U1")), (t("q", v("U1"), v("U1.1")),)), (t("q", v("X.3"), v("U1.2")), ())]
        told = why(rules, t("p", v("U1"), v("U1.1")))
        self.assertEqual(told, ("yes", [("yes", term_of("p(U1, U2)"), 1, [1]), ("yes", term_of("q(U2, U1)"), 2, [])]))
        told = why(rules[:1], t("p", v("U1"), v("U1.1")))
        self.assertEqual(tree_of(told[1]), ("no", goals_of("p(U1, U2)"), [("on", ("no", goals_of("q(U1, U2)"), []))]))


if __name__ == "__main__":
    unittest.main()
