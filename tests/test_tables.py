import copy
import unittest

from goaltrail.layers import layers_of
from goaltrail.search import search
from goaltrail.tables import fill
from tests.helper import (
    FACTS, FAMILY, LISTS, Chance, assert_refused, called, called_within, count_parts, n, names_in, nested, plainly_put,
    rules_of, slow_sum, slowly_anew, slowly_made_one, t, term_of, v,
)

MARKS = ("=", ":=", "<", "<=")


def anew(term):
    return slowly_anew([term])[0]


def fresh(terms, mark):
    names = {name: f"{name}#{mark}" for term in terms for name in names_in(term)}
    return [called(term, names) for term in terms]


def by_mark(goal, puts):
    """The puttings-in behind a goal of a mark, None where it falls, or a fault's word."""
    mark, (left, right) = goal[1], goal[2]
    if mark == "=":
        told = slowly_made_one(left, right, puts)
        return told[1] if told[0] == "one" else None
    right = slow_sum(right)
    if mark == ":=":
        told = right if isinstance(right, str) else slowly_made_one(left, n(right), puts)
        return told if isinstance(told, str) else told[1] if told[0] == "one" else None
    left = slow_sum(left)
    if isinstance(left, str) or isinstance(right, str):
        return left if isinstance(left, str) else right
    return puts if left < right or (mark == "<=" and left == right) else None


class TooMany(Exception):
    pass


class SlowFill:
    """Tables filled as the document tells it, in the plainest way. Ways with a fault or with more than forty
    parts fall, and what is due is noted; so all that is due is seen, save behind too many tables or answers."""

    def __init__(self, rules, goal):
        self.rules, self.layers = rules, layers_of(rules)
        self.tables, self.due, self.steps = {}, set(), 0
        self.cut_off = self.at_standstill = False
        try:
            self.table(goal)
            self.fill_up_to(len(rules))
            self.steps, self.at_standstill = 0, True
            for goal in self.tables:
                list(self.answers(goal))
            if self.steps > 300:
                self.due.add("full")
        except TooMany:
            self.due.add("full")
            self.cut_off = True

    def layer(self, goal):
        return self.layers.get((goal[1], len(goal[2])), 0)

    def table(self, goal):
        if self.tables.setdefault(anew(goal), []) == [] and len(self.tables) > 24:
            raise TooMany
        return self.tables[anew(goal)]

    def fill_up_to(self, layer):
        size = None
        while size != (len(self.tables), sum(map(len, self.tables.values()))):
            size = (len(self.tables), sum(map(len, self.tables.values())))
            for goal in list(self.tables):
                if self.layer(goal) <= layer:
                    for answer in self.answers(goal):
                        if answer not in self.tables[goal]:
                            self.tables[goal].append(answer)
            if sum(map(len, self.tables.values())) > 60:
                raise TooMany

    def answers(self, goal):
        for told in self.rules:
            terms = fresh([told[0]] + list(told[1]), "rule")
            one = slowly_made_one(goal, terms[0], {})
            if one[0] == "one":
                self.step()
                for puts in self.ways(terms[1:], one[1]):
                    answer = plainly_put(goal, puts)
                    if self.is_small(answer):
                        yield anew(answer)

    def step(self):
        self.steps += 1
        if self.steps > 20000:
            raise TooMany

    def is_small(self, term):
        if count_parts(term) > 40:
            self.due.add("full")
            return False
        return True

    def ways(self, goals, puts):
        if not goals:
            yield puts
            return
        goal = plainly_put(goals[0], puts)
        if not self.is_small(goal):
            return
        if goal[1] in MARKS:
            told = by_mark(goal, puts)
            if isinstance(told, str):
                self.due.add("fault")
            elif told is not None:
                yield from self.ways(goals[1:], told)
        elif goal[1] == "not":
            if names_in(goal):
                self.due.add("fault")
                return
            self.table(goal[2][0])
            if not self.at_standstill:
                self.fill_up_to(self.layer(goal[2][0]))
            if not self.table(goal[2][0]):
                yield from self.ways(goals[1:], puts)
        else:
            for answer in list(self.table(goal)):
                self.step()
                told = slowly_made_one(goal, fresh([answer], len(goals))[0], puts)
                yield from self.ways(goals[1:], told[1])


class TablesCase(unittest.TestCase):
    def assert_form(self, told, goal):
        self.assertIs(told.__class__, tuple)
        self.assertEqual(len(told), 2)
        self.assertIs(told[1].__class__, list)
        if told[0] != "done":
            self.assertIn(told[0], ("full", "fault"))
            self.assertEqual(told[1], [])
            return
        goals = [table[0] for table in told[1]]
        self.assertEqual(goals[0], anew(goal))
        self.assertEqual(len(goals), len(set(goals)))
        for table in told[1]:
            self.assertIs(table.__class__, tuple)
            self.assertEqual(table[0], anew(table[0]))
            self.assertIs(table[1].__class__, list)
            terms = [answer[0] for answer in table[1]]
            self.assertEqual(len(terms), len(set(terms)))
            self.assertEqual(terms, [anew(term) for term in terms])

    def assert_reasons(self, rules, tables):
        """Each answer comes by its rule and its reasons, which have lesser ranks."""
        for goal, answers in tables:
            for term, rank, number, reasons in answers:
                self.assertIs(rank.__class__, int)
                self.assertGreaterEqual(rank, 1)
                self.assertIs(reasons.__class__, list)
                head, *goals = fresh([rules[number - 1][0]] + list(rules[number - 1][1]), "rule")
                puts = slowly_made_one(goal, head, {})[1]
                left = list(reasons)
                for place, asked in enumerate(goals):
                    asked = plainly_put(asked, puts)
                    if asked[1] in MARKS:
                        puts = by_mark(asked, puts)
                    elif asked[1] == "not":
                        self.assertEqual(dict(tables)[anew(asked[2][0])], [])
                    else:
                        self.assertIs(left[0].__class__, tuple)
                        table, answer = left.pop(0)
                        self.assertEqual(tables[table][0], anew(asked))
                        self.assertLess(tables[table][1][answer][1], rank)
                        other = fresh([tables[table][1][answer][0]], place)[0]
                        puts = slowly_made_one(asked, other, puts)[1]
                self.assertEqual(left, [])
                self.assertEqual(anew(plainly_put(goal, puts)), term)

    def assert_filled(self, rules, goal):
        """What is told of a goal is right, beside a slow one."""
        told = fill(rules, goal)
        self.assert_form(told, goal)
        slow = SlowFill(rules, goal)
        if slow.due:
            self.assertTrue(told[0] in slow.due or (slow.cut_off and told[0] == "fault"), (rules, goal, told[0]))
            return told
        self.assertEqual(told[0], "done", (rules, goal))
        self.assertEqual({goal: sorted(answer[0] for answer in answers) for goal, answers in told[1]},
                         {goal: sorted(answers) for goal, answers in slow.tables.items()}, (rules, goal))
        self.assert_reasons(rules, told[1])
        return told

    def assert_done(self, texts, goal, tables):
        """Tables as texts: a goal to its answers, sorted."""
        with self.subTest(goal=goal, rules=texts):
            told = self.assert_filled(rules_of(*texts), term_of(goal))
            self.assertEqual(told[0], "done")
            self.assertEqual({goal: sorted(answer[0] for answer in answers) for goal, answers in told[1]},
                             {term_of(goal): sorted(map(term_of, answers)) for goal, answers in tables.items()})
        return told

    def assert_end(self, texts, goal, end):
        with self.subTest(goal=goal, rules=texts):
            self.assertEqual(self.assert_filled(rules_of(*texts), term_of(goal)), (end, []))


class Refused(TablesCase):
    def test_keeps(self):
        for texts in (("p <- keep",), ("p", "q <- p, not(p), keep"), ("p <- q, keep, r", "q")):
            assert_refused(self, "HasKeep", fill, rules_of(*texts), term_of("p"))
            assert_refused(self, "HasKeep", fill, rules_of(*texts), term_of("z(X)"))

    def test_not_layered(self):
        error = assert_refused(self, "NotLayered", fill, rules_of("p", "q <- not(q)"), term_of("p"))
        self.assertEqual(error.ring, [("q", 0)])

    def test_keeps_go_first(self):
        assert_refused(self, "HasKeep", fill, rules_of("q <- not(q)", "p <- keep"), term_of("p"))
        assert_refused(self, "HasKeep", fill, rules_of("p <- keep, X := a", "q <- not(q)"), term_of("p"))

    def test_a_keep_that_is_no_goal(self):
        self.assert_done(("p(keep) <- X = keep",), "p(X)", {"p(U1)": ["p(keep)"]})


class Filled(TablesCase):
    def test_facts(self):
        self.assert_done(FACTS, "p(X)", {"p(U1)": ["p(a)", "p(b)", "p(c)"]})
        self.assert_done(FACTS, "p(b)", {"p(b)": ["p(b)"]})
        self.assert_done(FACTS, "p(d)", {"p(d)": []})
        self.assert_done(FACTS, "s", {"s": ["s"]})
        self.assert_done(FACTS, "z(Y, X)", {"z(U1, U2)": []})
        self.assert_done((), "z", {"z": []})

    def test_told_as_it_stands(self):
        told = fill(rules_of("p(X) <- q(X)", "q(a)"), term_of("p(Y)"))
        self.assertEqual(told, ("done", [(term_of("p(U1)"), [(term_of("p(a)"), 2, 1, [(1, 0)])]),
                                         (term_of("q(U1)"), [(term_of("q(a)"), 1, 2, [])])]))

    def test_rings_of_asking(self):
        edges = ("edge(a, b)", "edge(b, c)", "edge(c, a)", "edge(d, a)")
        for rule in ("path(X, Z) <- path(X, Y), edge(Y, Z)", "path(X, Z) <- edge(X, Y), path(Y, Z)",
                     "path(X, Z) <- path(X, Y), path(Y, Z)"):
            told = fill(rules_of(*edges, "path(X, Y) <- edge(X, Y)", rule), term_of("path(a, X)"))
            self.assertEqual(told[0], "done")
            self.assertEqual(sorted(answer[0] for answer in told[1][0][1]),
                             [term_of(f"path(a, {place})") for place in "abc"])
            self.assert_filled(rules_of(*edges, "path(X, Y) <- edge(X, Y)", rule), term_of("path(X, Y)"))
        self.assert_done(("p <- p",), "p", {"p": []})
        self.assert_done(("p <- q", "q <- p", "q <- r", "r"), "p", {"p": ["p"], "q": ["q"], "r": ["r"]})
        self.assert_done(("p(X) <- p(Y)", "p(a)"), "p(b)", {"p(b)": ["p(b)"], "p(U1)": ["p(a)", "p(U1)"]})

    def test_answers_with_unknowns(self):
        self.assert_done(("p(X, Y)", "p(X, X)", "p(a, f(Z, W, Z))"), "p(A, B)",
                         {"p(U1, U2)": ["p(U1, U2)", "p(U1, U1)", "p(a, f(U1, U2, U1))"]})
        self.assert_done(("p(X) <- q(X, Y), q(Y, X)", "q(f(A), B)"), "p(X)",
                         {"p(U1)": ["p(f(U1))"], "q(U1, U2)": ["q(f(U1), U2)"], "q(U1, f(U2))": ["q(f(U1), f(U2))"]})
        self.assert_done(("p(X, Y) <- q(X), q(Y)", "q(Z)"), "p(X, Y)", {"p(U1, U2)": ["p(U1, U2)"], "q(U1)": ["q(U1)"]})

    def test_goals_that_differ_by_names_alone_have_one_table(self):
        self.assert_done(("p <- q(X, Y), q(B, A), q(C, C)", "q(a, b)", "q(c, c)"), "p",
                         {"p": ["p"], "q(U1, U2)": ["q(a, b)", "q(c, c)"], "q(U1, U1)": ["q(c, c)"]})

    def test_a_goal_that_is_met_only_on_some_ways(self):
        self.assert_done(("p(X) <- q(X), r(X), s(X)", "q(a)", "q(b)", "r(b)", "s(c)"), "p(X)",
                         {"p(U1)": [], "q(U1)": ["q(a)", "q(b)"], "r(a)": [], "r(b)": ["r(b)"], "s(b)": []})
        self.assert_done(("p <- z, q", "q"), "p", {"p": [], "z": []})
        self.assert_done(("p(a) <- q", "p(b) <- r", "r", "q"), "p(b)", {"p(b)": ["p(b)"], "r": ["r"]})

    def test_marks(self):
        self.assert_done(("p(X, Y) <- q(X), Y := X * 2, Y < 5, X <= 2, Z = f(X)", "q(1)", "q(2)", "q(3)"), "p(A, B)",
                         {"p(U1, U2)": ["p(1, 2)", "p(2, 4)"], "q(U1)": ["q(1)", "q(2)", "q(3)"]})
        self.assert_done(("p(X) <- X = f(Y, Y)", "p(X) <- X = f(X)", "p(X) <- 1 := 2", "p(X) <- 2 < 2, X = a",
                          "p(X) <- 2 <= 2, X = b"), "p(X)", {"p(U1)": ["p(f(U1, U1))", "p(b)"]})

    def test_lists(self):
        self.assert_done(LISTS, "app([1], [2], X)", {"app([1], [2], U1)": ["app([1], [2], [1, 2])"],
                                                     "app([], [2], U1)": ["app([], [2], [2])"]})
        told = self.assert_filled(rules_of(*LISTS), term_of("app(X, Y, [1, 2, 3])"))
        self.assertEqual([len(answers) for goal, answers in told[1]], [4, 3, 2, 1])

    def test_family(self):
        told = self.assert_filled(rules_of(*FAMILY), term_of("below(X, Y)"))
        self.assertEqual(told[0], "done")
        self.assertEqual(len(told[1][0][1]), 8)

    def test_an_answer_that_comes_by_several_rules_stands_once(self):
        self.assert_done(("p(a)", "p(X) <- q(X)", "p(a)", "q(a)", "q(b)"), "p(X)",
                         {"p(U1)": ["p(a)", "p(b)"], "q(U1)": ["q(a)", "q(b)"]})

    def test_ranks(self):
        chain = tuple(f"p{k} <- p{k + 1}" for k in range(9)) + ("p9",)
        told = self.assert_filled(rules_of(*chain), term_of("p0"))
        for (goal, answers), more in zip(told[1], told[1][1:]):
            self.assertGreater(answers[0][1], more[1][0][1])


class Nots(TablesCase):
    def test_by_layers(self):
        self.assert_done(("p(X) <- q(X), not(r(X))", "q(a)", "q(b)", "r(b)"), "p(X)",
                         {"p(U1)": ["p(a)"], "q(U1)": ["q(a)", "q(b)"], "r(a)": [], "r(b)": ["r(b)"]})
        self.assert_done(("p <- not(q)", "q <- not(r)", "r <- not(s)", "s"), "p",
                         {"p": [], "q": ["q"], "r": [], "s": ["s"]})
        self.assert_done(("p <- not(z)",), "p", {"p": ["p"], "z": []})

    def test_a_not_waits_for_the_standstill(self):
        # r(b) comes only behind several rounds; a not that looked too early would let p(b) in.
        rules = ("p(X) <- q(X), not(r(X))", "q(a)", "q(b)", "r(X) <- r1(X)", "r1(X) <- r2(X)", "r2(X) <- r3(X)",
                 "r3(b)", "r3(X) <- r(X)")
        told = self.assert_filled(rules_of(*rules), term_of("p(X)"))
        self.assertEqual([answer[0] for answer in told[1][0][1]], [term_of("p(a)")])
        # And what is met behind it would be met in vain.
        rules = ("p <- not(r), z(1)", "r <- r1", "r1 <- r2", "r2 <- r3", "r3")
        self.assert_done(rules, "p", {"p": [], "r": ["r"], "r1": ["r1"], "r2": ["r2"], "r3": ["r3"]})

    def test_tables_below_that_come_while_an_upper_one_is_filled(self):
        self.assert_done(("p(X) <- e(X, Y), not(d(Y)), p(Y)", "p(c)", "e(a, b)", "e(b, c)", "d(Y) <- e(Y, Z), e2(Z)",
                          "e2(c)"), "p(a)",
                         {"p(a)": [], "e(a, U1)": ["e(a, b)"], "d(b)": ["d(b)"], "e(b, U1)": ["e(b, c)"],
                          "e2(c)": ["e2(c)"]})
        self.assert_filled(rules_of("win(X) <- e(X, Y), lost(Y)", "lost(X) <- f(X), not(g(X))", "g(X) <- e(X, Y), h(Y)",
                                    "h(X) <- not(e2(X))", "e(1, 2)", "e(2, 3)", "e(3, 1)", "f(2)", "f(3)", "e2(3)"),
                           term_of("win(X)"))

    def test_nots_in_a_ring_of_asking(self):
        self.assert_done(("p(X) <- q(X), not(z)", "q(X) <- p(X)", "q(a)"), "p(X)",
                         {"p(U1)": ["p(a)"], "q(U1)": ["q(a)"], "z": []})

    def test_a_not_of_a_ring_of_asking(self):
        self.assert_done(("p <- not(q)", "q <- r", "r <- q"), "p", {"p": ["p"], "q": [], "r": []})

    def test_a_goal_with_unknowns_is_a_fault(self):
        self.assert_end(("p <- not(q(X))", "q(a)"), "p", "fault")
        self.assert_end(("p(X) <- not(q(X))", "q(a)"), "p(Y)", "fault")
        self.assert_done(("p(X) <- not(q(X))", "q(a)"), "p(b)", {"p(b)": ["p(b)"], "q(b)": []})

    def test_many_layers(self):
        rules = [(t(f"p{k}"), (t("not", t(f"p{k + 1}")),)) for k in range(23)]
        told = called_within(120, lambda: fill(rules, t("p0")))
        self.assertEqual(told[0], "done")
        self.assertEqual([len(answers) for goal, answers in told[1]], [k % 2 for k in range(1, 24)] + [0])


class Ends(TablesCase):
    def test_faults(self):
        for rule in ("p(X) <- X < 1", "p(X) <- Y := X + 1", "p(X) <- Y := a", "p(X) <- 1 / 0 <= 1",
                     "p(X) <- not(z(X))"):
            self.assert_end((rule, "p(a)"), "p(X)", "fault")
            self.assert_end(("q(X) <- p(X)", rule), "q(X)", "fault")
            self.assert_end(("q <- not(r)", "r <- p(X)", rule), "q", "fault")

    def test_a_fault_that_is_not_met(self):
        self.assert_done(("p(a)", "q(X) <- X < 1", "p(b) <- z, Y := a"), "p(X)", {"p(U1)": ["p(a)"], "z": []})

    def test_a_search_that_ends_with_a_fault(self):
        rules = ("p <- q(X), X < 2", "q(1)", "q(a)")
        self.assertEqual(search(rules_of(*rules), [term_of("p")])[1][0], "fault")
        self.assert_end(rules, "p", "fault")
        # Here the search comes to an answer of the not's goal ahead of the fault; the tables need not.
        self.assert_end(("p <- not(q)", "q", "q <- Y := a"), "p", "fault")

    def assert_great(self, goal, done, full):
        """For p(X) <- GOAL: X of so many parts is done, of so many is full."""
        rules = [(t("p", v("X")), (term_of(goal),)), (t("q", v("X")), ())]
        for many, end in ((done, "done"), (full, "full")):
            with self.subTest(goal, many=many):
                self.assertEqual(self.assert_filled(rules, t("p", nested(many)))[0], end)

    def test_goals_of_more_than_forty_parts(self):
        self.assert_great("q(X)", 39, 40)
        self.assert_great("not(q(X))", 38, 39)
        self.assert_great("X = X", 19, 20)
        self.assert_great("X = q(Y)", 37, 38)
        self.assert_great("X := 1", 38, 39)

    def test_comparisons_of_more_than_forty_parts(self):
        rules = [(t("p", v("X")), (t("<", n(0), v("X")),))]
        for pluses, end in ((18, "done"), (19, "full")):
            term = n(1)
            for again in range(pluses):
                term = t("+", n(1), term)
            self.assertEqual(self.assert_filled(rules, t("p", term))[0], end)

    def test_answers_of_more_than_forty_parts(self):
        for many, end in ((13, "done"), (14, "full")):
            rules = [(t("p", v("X"), v("X"), v("X")), (t("q", v("X")),)), (t("q", nested(many)), ())]
            self.assertEqual(self.assert_filled(rules, term_of("p(X, Y, Z)"))[0], end)

    def test_tables(self):
        for many, end in ((24, "done"), (25, "full")):
            rules = [(t(f"p{k}"), (t(f"p{k + 1}"),)) for k in range(many - 1)]
            told = self.assert_filled(rules, t("p0"))
            self.assertEqual((told[0], len(told[1])), (end, many if end == "done" else 0))
        for many, end in ((23, "done"), (24, "full")):
            rules = [(t("p", n(k)), (t("not", t("q", n(k))),)) for k in range(many)]
            self.assertEqual(self.assert_filled(rules, term_of("p(X)"))[0], end)

    def test_answers(self):
        facts = tuple(f"p({k})" for k in range(30))
        told = self.assert_filled(rules_of(*facts, "q(X) <- p(X)"), term_of("q(X)"))
        self.assertEqual((told[0], [len(answers) for goal, answers in told[1]]), ("done", [30, 30]))
        self.assert_end(facts + ("q(X) <- p(X)", "q(a)"), "q(X)", "full")
        self.assert_end(facts + ("q(X) <- p(X)", "r <- q(X)"), "r", "full")

    def test_steps(self):
        # 16 facts: one head, 16 answers, 16 times 16 answers, 16 heads; then 1 and 5 and 5 for c.
        rules = tuple(f"p({k})" for k in range(16)) + ("q <- p(X), p(Y)", "q <- c(X)") + tuple(
            f"c({k})" for k in range(5))
        self.assertEqual(self.assert_filled(rules_of(*rules), term_of("q"))[0], "done")
        self.assertEqual(SlowFill(rules_of(*rules), term_of("q")).steps, 300)
        self.assert_end(rules + ("q",), "q", "full")
        self.assert_end(rules + ("c(6)",), "q", "full")
        # A rule whose head parts is no step.
        self.assertEqual(self.assert_filled(rules_of(*rules, "q(1)", "p(1, 2)"), term_of("q"))[0], "done")

    def test_a_head_that_parts_is_no_step(self):
        rules = tuple(f"p({k})" for k in range(16)) + ("q(a) <- p(X), p(Y)", "q(a) <- c(X)", "q(b) <- z") + tuple(
            f"c({k})" for k in range(5))
        self.assertEqual(self.assert_filled(rules_of(*rules), term_of("q(a)"))[0], "done")
        self.assertEqual(SlowFill(rules_of(*rules), term_of("q(a)")).steps, 300)

    def test_steps_on_each_way_on_which_a_goal_is_met(self):
        # The goal s is met 16 times 16 times; it has no answer: no step more.
        rules = tuple(f"p({k})" for k in range(16)) + ("q <- p(X), p(Y), s",)
        self.assertEqual(self.assert_filled(rules_of(*rules), term_of("q"))[0], "done")
        self.assert_end(rules + ("s",), "q", "full")

    def test_no_standstill(self):
        self.assert_end(("n(0)", "n(N) <- n(M), N := M + 1"), "n(X)", "full")
        self.assert_end(("n(a)", "n(f(X)) <- n(X)"), "n(X)", "full")
        self.assert_end(("p(X) <- p(f(X))",), "p(a)", "full")
        self.assert_end(("d(X, f(X, X))", "p(X) <- d(X, Y), p(Y)"), "p(a)", "full")
        self.assert_end(LISTS, "app(X, [1], Z)", "full")

    def test_both_due(self):
        told = fill(rules_of("p <- n(X), Y := a", "n(0)", "n(N) <- n(M), N := M + 1"), term_of("p"))
        self.assertIn(told, (("full", []), ("fault", [])))


class BesideASlowOne(TablesCase):
    def test_some_programs(self):
        chance = Chance(91, keeps=False)
        ends, same = {}, 0
        for again in range(2500):
            rules, goal = chance.rules(), chance.named()
            try:
                layers_of(rules)
            except ValueError:
                assert_refused(self, "NotLayered", fill, rules, goal)
                continue
            told = self.assert_filled(rules, goal)
            ends[told[0]] = ends.get(told[0], 0) + 1
            found = search(rules, [goal], 400, 40)
            if found[1][0] == "fault":
                self.assertNotEqual(told[0], "done")
            if told[0] == "done" and found[1] == ("all",):
                same += 1
                terms = {anew(called_by(goal, answer)) for answer, way in found[0]}
                self.assertEqual(terms, {answer[0] for answer in told[1][0][1]})
        self.assertGreater(min(ends.values()), 40, ends)
        self.assertEqual(len(ends), 3)
        self.assertGreater(same, 1000)

    def test_programs_by_hand(self):
        rules = rules_of(*FAMILY, "leaf(X) <- child(Y, X), not(has(X))", "has(X) <- child(X, Y)",
                         "same(X, Y) <- leaf(X), leaf(Y), not(eq(X, Y))", "eq(X, X)",
                         "far(X, Y) <- below(X, Z), below(Z, Y)")
        for text in ("leaf(X)", "same(X, Y)", "same(dan, X)", "far(ann, X)", "below(bob, X)", "grand(X, eve)",
                     "has(X)"):
            self.assert_filled(rules, term_of(text))


def called_by(goal, answer):
    """The goal as a search's answer has it."""
    puts = {name + "?": term for name, term in answer}
    return plainly_put(called(goal, {name: name + "?" for name in names_in(goal)}), puts)


class Everywhere(TablesCase):
    def test_what_is_handed_in_stays(self):
        rules = [(t("p", v("X")), [t("q", v("X")), t("not", t("r", v("X")))]), (t("q", t("a")), [])]
        goal = term_of("p(X)")
        before = copy.deepcopy((rules, goal))
        self.assertEqual(fill(rules, goal)[0], "done")
        self.assertEqual((rules, goal), before)

    def test_what_is_given_is_the_askers_own(self):
        rules = rules_of("p(X) <- q(X), q(X)", "q(a)", "q(b)")
        first, kept = fill(rules, term_of("p(X)")), fill(rules, term_of("p(X)"))
        self.assertEqual(first, kept)
        first[1][0][1][0][3].append((9, 9))
        self.assertEqual(first[1][0][1][1], kept[1][0][1][1])
        first[1][0][1].pop()
        first[1].pop()
        self.assertEqual(fill(rules, term_of("p(X)")), kept)
        full = fill(rules_of("p(X) <- p(f(X))"), term_of("p(a)"))
        full[1].append(1)
        self.assertEqual(fill(rules_of("p(X) <- p(f(X))"), term_of("p(a)")), ("full", []))

    def test_names_that_were_marked(self):
        rules = [(t("p", v("U1.0"), v("U1")), (t("q", v("U1"), v("U1.0")),)), (t("q", v("X.1"), v("U1.2")), ())]
        told = fill(rules, t("p", v("U1.0"), v("U1.1")))
        self.assertEqual([answer[0] for answer in told[1][0][1]], [term_of("p(U1, U2)")])
        told = fill(rules, t("p", v("U1.0"), v("U1.0")))
        self.assertEqual([answer[0] for answer in told[1][0][1]], [term_of("p(U1, U1)")])


if __name__ == "__main__":
    unittest.main()
