import copy
import unittest

from goaltrail.search import search
from goaltrail.signs import first_signs
from goaltrail.writer import shown
from tests.helper import (
    A, B, FACTS, FAMILY, LISTS, X, Chance, called, called_within, count_parts, goals_of, n, names_in, nested,
    plainly_put, rules_of, slow_sum, slowly_anew, slowly_made_one, t, term_of, v,
)


# A searcher of its own, by the document's words and in the plainest way: for the tests alone.

class Ended(Exception):
    pass


class LetGo(Exception):
    """All ways are let go that were left since this goal was taken up."""


class SlowSearch:
    def __init__(self, rules, bound):
        self.rules = rules
        self.bound = bound
        self.count = 0
        self.uses = 0

    def new_rule(self, told):
        self.uses += 1
        terms = [told[0]] + list(told[1])
        names = {name: f"{name}#{self.uses}" for term in terms for name in names_in(term)}
        terms = [called(term, names) for term in terms]
        return terms[0], terms[1:]

    def taken_up(self, goal, puts):
        if self.count == self.bound:
            raise Ended(("spent",))
        self.count += 1
        reading = plainly_put(goal, puts)
        if count_parts(reading) > 40:
            raise Ended(("big",))
        return reading

    def summed(self, term, goal):
        told = slow_sum(term)
        if isinstance(told, str):
            raise Ended(("fault", told, slowly_anew([goal])[0]))
        return told

    def solve(self, todo, puts, way):
        """The puttings-in and the way of each way to the end of what is to be asked."""
        if not todo:
            yield puts, way
            return
        (goal, owner), rest = todo[0], todo[1:]
        goal = self.taken_up(goal, puts)
        sign, kids = goal[1], goal[2]
        if sign == "keep":
            yield from self.solve(rest, puts, way + [0])
            raise LetGo(owner)
        if sign not in ("=", ":=", "<", "<=", "not"):
            yield from self.by_rules(goal, rest, puts, way)
            return
        if sign == "not":
            if names_in(goal):
                raise Ended(("fault", "open", slowly_anew([goal])[0]))
            if any(True for found in self.solve([(kids[0], None)], puts, [])):
                return
        if sign in ("<", "<="):
            one, other = self.summed(kids[0], goal), self.summed(kids[1], goal)
            if one > other or (sign == "<" and one == other):
                return
        if sign in ("=", ":="):
            right = kids[1] if sign == "=" else n(self.summed(kids[1], goal))
            told = slowly_made_one(kids[0], right, puts)
            if told[0] != "one":
                return
            puts = told[1]
        yield from self.solve(rest, puts, way + [0])

    def by_rules(self, goal, rest, puts, way):
        mine = object()
        for number, told in enumerate(self.rules, 1):
            head, goals = self.new_rule(told)
            one = slowly_made_one(goal, head, puts)
            if one[0] == "one":
                try:
                    yield from self.solve([(more, mine) for more in goals] + rest, one[1], way + [number])
                except LetGo as let:
                    if let.args[0] is not mine:
                        raise
                    return


def slowly_searched(rules, goals, bound, most):
    run = SlowSearch(rules, bound)
    names = list(dict.fromkeys(name for goal in goals for name in names_in(goal)))
    answers = []
    try:
        for puts, way in run.solve([(goal, "question") for goal in goals], puts={}, way=[]):
            terms = [plainly_put(v(name), puts) for name in names]
            if sum(count_parts(term) for term in terms) > 40:
                raise Ended(("big",))
            answers.append((list(zip(names, slowly_anew(terms))), way))
            if len(answers) == most:
                raise Ended(("enough",))
    except LetGo:
        pass
    except Ended as ended:
        return (answers, ended.args[0], run.count)
    return (answers, ("all",), run.count)


def led_to(rules, goals, way):
    """The answer to which a way leads: nots and comparisons are passed by, the rest is made one."""
    names = list(dict.fromkeys(name for goal in goals for name in names_in(goal)))
    run = SlowSearch(rules, 400)
    todo, puts = list(goals), {}
    for number in way:
        goal = plainly_put(todo.pop(0), puts)
        pair = None
        if number:
            pair, more = run.new_rule(rules[number - 1])
            pair, todo = (goal, pair), more + todo
        elif goal[1] == "=":
            pair = goal[2]
        elif goal[1] == ":=":
            pair = (goal[2][0], n(slow_sum(goal[2][1])))
        if pair is not None:
            told = slowly_made_one(pair[0], pair[1], puts)
            assert told[0] == "one"
            puts = told[1]
    assert not todo
    return list(zip(names, slowly_anew([plainly_put(v(name), puts) for name in names])))


def answer_shown(answer):
    return ", ".join(f"{name} = {shown(term, first_signs())}" for name, term in answer)


class SearchCase(unittest.TestCase):
    def assert_run(self, rules, question, answers, end, count, *limits):
        """Answers are pairs of a text and a way, or ways alone where the question has no unknowns."""
        with self.subTest(question=question, limits=limits):
            told = search(rules_of(*rules), goals_of(question), *limits)
            expected = [one if isinstance(one, tuple) else ("", one) for one in answers]
            self.assertEqual([(answer_shown(answer), way) for answer, way in told[0]], expected)
            self.assertEqual(told[1:], (end, count))
            self.assert_form(told)
        return told

    def assert_form(self, told):
        self.assertIs(told.__class__, tuple)
        self.assertEqual(len(told), 3)
        self.assertIs(told[0].__class__, list)
        self.assertIs(told[1].__class__, tuple)
        self.assertIs(told[2].__class__, int)
        for pair in told[0]:
            self.assertIs(pair.__class__, tuple)
            self.assertIs(pair[0].__class__, list)
            self.assertIs(pair[1].__class__, list)
            self.assertTrue(all(one.__class__ is tuple and len(one) == 2 for one in pair[0]))
        ways = [pair[1] for pair in told[0]]
        self.assertEqual(ways, sorted(ways))
        self.assertEqual(len(ways), len(set(map(tuple, ways))))

    def fault(self, word, goal):
        return ("fault", word, term_of(goal))


ALL = ("all",)
SPENT = ("spent",)
BIG = ("big",)
ENOUGH = ("enough",)


class NamedGoals(SearchCase):
    def test_facts_in_their_order(self):
        self.assert_run(FACTS, "p(X)", [("X = a", [1]), ("X = b", [2]), ("X = c", [3])], ALL, 1)
        self.assert_run(FACTS, "p(b)", [[2]], ALL, 1)
        self.assert_run(FACTS, "p(d)", [], ALL, 1)
        self.assert_run(FACTS, "s", [[4]], ALL, 1)
        self.assert_run(FACTS, "p(X), q(X)", [("X = b", [2, 5]), ("X = c", [3, 6])], ALL, 4)
        self.assert_run(FACTS, "q(X), p(X)", [("X = b", [5, 2]), ("X = c", [6, 3])], ALL, 3)
        self.assert_run(("p(b)", "q(a)", "p(a)", "p(b)"), "p(X)", [("X = b", [1]), ("X = a", [3]), ("X = b", [4])],
                        ALL, 1)

    def test_rules_with_goals(self):
        self.assert_run(FAMILY, "grand(ann, X)", [("X = dan", [6, 1, 3]), ("X = eve", [6, 2, 4]),
                                                  ("X = fay", [6, 2, 5])], ALL, 4)
        self.assert_run(FAMILY, "below(X, fay)", [("X = cat", [7, 5]), ("X = ann", [8, 2, 7, 5])], ALL, 27)

    def test_goals_of_a_rule_stand_ahead_of_those_still_to_be_asked(self):
        rules = ("p <- q, r", "q <- s", "r", "s", "z")
        self.assert_run(rules, "p, z", [[1, 2, 4, 3, 5]], ALL, 5)

    def test_of_one_goals_rules_the_next_one_and_the_way_left_last(self):
        rules = ("p(1)", "p(2)", "q(a)", "q(b)")
        self.assert_run(rules, "p(X), q(Y)", [("X = 1, Y = a", [1, 3]), ("X = 1, Y = b", [1, 4]),
                                              ("X = 2, Y = a", [2, 3]),
                                              ("X = 2, Y = b", [2, 4])], ALL, 3)

    def test_a_rules_unknowns_are_new_each_time(self):
        self.assert_run(("eq(A, A)",), "eq(X, f(Y)), eq(Y, b)", [("X = f(b), Y = b", [1, 1])], ALL, 2)
        self.assert_run(("p(X, a)",), "p(b, X)", [("X = a", [1])], ALL, 1)
        self.assert_run(("p(X, Y)",), "p(Y, X)", [("Y = U1, X = U2", [1])], ALL, 1)
        self.assert_run(("p(a)", "p(f(X)) <- p(X)"), "p(f(f(X)))", [("X = a", [2, 2, 1]), ("X = f(a)", [2, 2, 2, 1])],
                        ENOUGH, 4, 200, 2)
        self.assert_run(("p(X) <- q(X, Y), q(Y, X)", "q(Z, Z)"), "p(X), p(Y)",
                        [("X = U1, Y = U2", [1, 2, 2, 1, 2, 2])], ALL, 6)

    def test_unknowns_are_new_whatever_names_are_handed_in(self):
        rules = rules_of("p(f(X), Y) <- q(X), q(Y)", "q(Z)")
        for name in ("X", "Z", "U1", "U2", "X.0", "X.1", "U1.0", "U1.1", "U2.1", "U1.2", "U1.3", "Y.1.1"):
            for other in ("Y", "U3", "U1.1", "U2.2", "X.2"):
                if name != other:
                    told = search(rules, [t("p", v(name), v(other)), t("q", v(name))])
                    answer = [(name, t("f", v("U1"))), (other, v("U2"))]
                    self.assertEqual(told, ([(answer, [1, 2, 2, 2])], ALL, 4))

    def test_names_of_rules_that_were_marked(self):
        rules = [(t("p", v("U1.1"), v("U1")), (t("q", v("U1"), v("U1.1")),)), (t("q", v("X.3"), v("U1.2")), ())]
        told = search(rules, [t("p", v("U1"), v("U1.1"))])
        self.assertEqual(told, ([([("U1", v("U1")), ("U1.1", v("U2"))], [1, 2])], ALL, 2))

    def test_a_word_or_a_number_of_kids_that_no_rule_has(self):
        for question in ("z", "z(X)", "p", "p(a, b)", "s(a)"):
            self.assert_run(FACTS, question, [], ALL, 1)
            self.assert_run((), question, [], ALL, 1)
        self.assert_run(FACTS, "p(X), z", [], ALL, 4)
        self.assert_run(("p", "p(a)", "p(a, b)"), "p(X)", [("X = a", [2])], ALL, 1)

    def test_heads_and_goals_that_part_or_make_a_ring(self):
        self.assert_run(("p(X, f(X))", "p(a, b)", "p(X, X)"), "p(Y, Y)", [("Y = U1", [3])], ALL, 1)
        self.assert_run(("p(X, X)",), "p(Y, f(Y))", [], ALL, 1)

    def test_lists(self):
        self.assert_run(LISTS, "app([1, 2], [3], X)", [("X = [1, 2, 3]", [2, 2, 1])], ALL, 3)
        self.assert_run(LISTS, "app(X, Y, [1, 2])", [("X = [], Y = [1, 2]", [1]), ("X = [1], Y = [2]", [2, 1]),
                                                      ("X = [1, 2], Y = []", [2, 2, 1])], ALL, 3)
        self.assert_run(LISTS, "in(X, [a, b, c]), in(X, [c, b])", [("X = b", [4, 3, 4, 3]), ("X = c", [4, 4, 3, 3])],
                        ALL, 13)

    def test_what_was_put_in_is_taken_out_again(self):
        rules = ("p(X, Y) <- X = a, Y = b, z", "p(X, Y) <- Y = c", "q(X) <- X = f(a), z", "q(X)")
        self.assert_run(rules, "p(X, Y)", [("X = U1, Y = c", [2, 0])], ALL, 5)
        self.assert_run(rules, "q(X)", [("X = U1", [4])], ALL, 3)


class MarkGoals(SearchCase):
    def test_made_one(self):
        self.assert_run((), "X = a", [("X = a", [0])], ALL, 1)
        self.assert_run((), "a = X", [("X = a", [0])], ALL, 1)
        self.assert_run((), "X = Y", [("X = U1, Y = U1", [0])], ALL, 1)
        self.assert_run((), "f(X, b) = f(a, Y)", [("X = a, Y = b", [0])], ALL, 1)
        self.assert_run((), "a = a, 1 = 1, [] = []", [[0, 0, 0]], ALL, 3)
        for question in ("a = b", "1 = 2", "f(a) = f(a, a)", "X = f(X)", "1 = a", "1 + 1 = 2", "[] = [a]"):
            self.assert_run((), question, [], ALL, 1)
        self.assert_run((), "X = 1 + 1", [("X = 1 + 1", [0])], ALL, 1)

    def test_reckoned(self):
        self.assert_run((), "X := 2 + 3 * 4", [("X = 14", [0])], ALL, 1)
        self.assert_run((), "14 := 2 + 3 * 4", [[0]], ALL, 1)
        self.assert_run((), "X = 4, Y := X * X", [("X = 4, Y = 16", [0, 0])], ALL, 2)
        self.assert_run((), "X := ~7 / 2, Y := ~7 /: 2", [("X = ~4, Y = 1", [0, 0])], ALL, 2)
        for question in ("13 := 14", "a := 5", "f(X) := 5", "2 + 3 := 5", "[] := 0"):
            self.assert_run((), question, [], ALL, 1)
        self.assert_run((), "X = 1, X := X + 1", [], ALL, 2)

    def test_less_and_at_most(self):
        for left, right in ((1, 2), (2, 2), (3, 2), (-1, 0), (0, -1), (-5, -5)):
            goal = [t("<", t("+", n(left), n(0)), n(right))]
            self.assertEqual(search([], goal), ([([], [0])] if left < right else [], ALL, 1))
            goal = [t("<=", n(left), t("*", n(right), n(1)))]
            self.assertEqual(search([], goal), ([([], [0])] if left <= right else [], ALL, 1))

    def test_between_goals(self):
        rules = ("n(1)", "n(2)", "n(3)", "n(4)")
        self.assert_run(rules, "n(X), 2 <= X, X < 4", [("X = 2", [2, 0, 0]), ("X = 3", [3, 0, 0])], ALL, 8)
        rules = ("fact(0, 1) <- keep", "fact(N, F) <- M := N - 1, fact(M, G), F := N * G")
        self.assert_run(rules, "fact(5, X)", [("X = 120", [2, 0] * 5 + [1, 0] + [0] * 5)], ALL, 17)

    def test_faults(self):
        for question, word, goal, count in (
            ("X := Y + 1", "open", "U1 := U2 + 1", 1),
            ("X := X", "open", "U1 := U1", 1),
            ("Z := a", "kind", "U1 := a", 1),
            ("Z := 1 / 0", "nought", "U1 := 1 / 0", 1),
            ("Z := 1 /: 0", "nought", "U1 := 1 /: 0", 1),
            ("X < 1", "open", "U1 < 1", 1),
            ("1 < X", "open", "1 < U1", 1),
            ("X < a", "open", "U1 < a", 1),
            ("a < X", "kind", "a < U1", 1),
            ("1 / 0 <= X", "nought", "1 / 0 <= U1", 1),
            ("X <= 1 / 0", "open", "U1 <= 1 / 0", 1),
            ("[] <= 0", "kind", "[] <= 0", 1),
            (f"Z := {'9' * 30} + 1", "far", f"U1 := {'9' * 30} + 1", 1),
            ("X = f(Y), Z := X + Y", "kind", "U1 := f(U2) + U2", 2),
            ("X = 1, Y = Z, W := Y + Z + X", "open", "U1 := U2 + U2 + 1", 3),
            ("X = 5, Y = 0, f(Z, W) := X / Y", "nought", "f(U1, U2) := 5 / 0", 3),
        ):
            self.assert_run((), question, [], self.fault(word, goal), count)

    def test_a_fault_in_a_rule_and_behind_answers(self):
        rules = ("p(1)", "p(0)", "p(2)", "inv(X, Y) <- Y := 6 / X")
        self.assert_run(rules, "p(X), inv(X, Y)", [("X = 1, Y = 6", [1, 4, 0])], self.fault("nought", "U1 := 6 / 0"), 5)
        self.assert_run(rules, "p(X), inv(X, Y)", [("X = 1, Y = 6", [1, 4, 0])], ENOUGH, 3, 200, 1)

    def test_what_is_made_one_ahead_of_a_fault_stays_unasked(self):
        self.assert_run(FACTS, "z, X := a", [], ALL, 1)
        self.assert_run(FACTS, "s, X := a, z", [], self.fault("kind", "U1 := a"), 2)


class Keeps(SearchCase):
    def test_in_a_rule(self):
        rules = FACTS + ("one(X) <- p(X), keep", "one(d)", "first(X) <- keep, p(X)", "first(e)")
        self.assert_run(rules, "one(X)", [("X = a", [7, 1, 0])], ALL, 3)
        self.assert_run(rules, "first(X)", [("X = a", [9, 0, 1]), ("X = b", [9, 0, 2]), ("X = c", [9, 0, 3])], ALL, 3)

    def test_between_goals(self):
        rules = FACTS + ("r(X, Y) <- p(X), keep, q(Y)", "r(d, d)")
        self.assert_run(rules, "r(X, Y)", [("X = a, Y = b", [7, 1, 0, 5]), ("X = a, Y = c", [7, 1, 0, 6])], ALL, 4)

    def test_goals_behind_a_keep_that_fall(self):
        rules = FACTS + ("r(X) <- p(X), keep, q(X)", "r(d)")
        self.assert_run(rules, "r(X)", [], ALL, 4)

    def test_a_keep_that_is_not_come_to(self):
        rules = FACTS + ("r(X) <- p(X), q(X), keep", "r(d)", "t(X) <- z, keep", "t(d)")
        self.assert_run(rules, "r(X)", [("X = b", [7, 2, 5, 0])], ALL, 5)
        self.assert_run(rules, "t(X)", [("X = d", [10])], ALL, 2)

    def test_ways_that_were_left_ahead_of_the_goal_stay(self):
        rules = FACTS + ("one(X) <- q(X), keep",)
        self.assert_run(rules, "p(X), one(Y)", [("X = a, Y = b", [1, 7, 5, 0]), ("X = b, Y = b", [2, 7, 5, 0]),
                                                ("X = c, Y = b", [3, 7, 5, 0])], ALL, 10)

    def test_in_a_rule_that_a_rules_goal_asks(self):
        rules = FACTS + ("out(X, Y) <- p(X), inner(Y)", "out(d, d)", "inner(Y) <- q(Y), keep", "inner(e)")
        self.assert_run(rules, "out(X, Y)", [("X = a, Y = b", [7, 1, 9, 5, 0]), ("X = b, Y = b", [7, 2, 9, 5, 0]),
                                             ("X = c, Y = b", [7, 3, 9, 5, 0]), ("X = d, Y = d", [8])], ALL, 11)

    def test_in_both(self):
        rules = FACTS + ("out(X, Y) <- p(X), inner(Y), keep", "out(d, d)", "inner(Y) <- q(Y), keep", "inner(e)")
        self.assert_run(rules, "out(X, Y)", [("X = a, Y = b", [7, 1, 9, 5, 0, 0])], ALL, 6)
        rules = FACTS + ("out(X, Y) <- p(X), keep, inner(Y)", "out(d, d)", "inner(Y) <- q(Y)", "inner(e)")
        self.assert_run(rules, "out(X, Y)", [("X = a, Y = b", [7, 1, 0, 9, 5]), ("X = a, Y = c", [7, 1, 0, 9, 6]),
                                             ("X = a, Y = e", [7, 1, 0, 10])], ALL, 5)

    def test_ways_that_were_left_in_goals_ahead_of_it(self):
        rules = ("p(X) <- q(X), r(X), keep", "p(9)", "q(X) <- u(X)", "q(8)", "u(1)", "u(2)", "u(3)", "r(2)", "r(3)")
        self.assert_run(rules, "p(X)", [("X = 2", [1, 3, 6, 8, 0])], ALL, 6)

    def test_two_keeps(self):
        rules = FACTS + ("r(X, Y) <- p(X), keep, q(Y), keep", "r(d, d)")
        self.assert_run(rules, "r(X, Y)", [("X = a, Y = b", [7, 1, 0, 5, 0])], ALL, 5)

    def test_in_a_question(self):
        self.assert_run(FACTS, "keep", [[0]], ALL, 1)
        self.assert_run(FACTS, "p(X), keep", [("X = a", [1, 0])], ALL, 2)
        self.assert_run(FACTS, "keep, p(X)", [("X = a", [0, 1]), ("X = b", [0, 2]), ("X = c", [0, 3])], ALL, 2)
        self.assert_run(FACTS, "p(X), q(Y), keep", [("X = a, Y = b", [1, 5, 0])], ALL, 3)
        self.assert_run(FACTS, "p(X), keep, q(Y)", [("X = a, Y = b", [1, 0, 5]), ("X = a, Y = c", [1, 0, 6])], ALL, 3)
        self.assert_run(FACTS, "p(X), keep, z", [], ALL, 3)
        self.assert_run(FACTS, "p(X), q(X), keep", [("X = b", [2, 5, 0])], ALL, 4)
        rules = FACTS + ("one(X) <- p(X), keep", "one(d)")
        self.assert_run(rules, "q(Y), one(X), keep", [("Y = b, X = a", [5, 7, 1, 0, 0])], ALL, 5)

    def test_a_rule_that_asks_itself(self):
        rules = ("last([X], X) <- keep", "last([H | T], X) <- last(T, X)")
        self.assert_run(rules, "last([a, b, c], X)", [("X = c", [2, 2, 1, 0])], ALL, 4)
        rules = ("p(0) <- keep", "p(N) <- M := N - 1, p(M)", "p(N)")
        self.assert_run(rules, "p(2)", [[2, 0, 2, 0, 1, 0], [2, 0, 3], [3]], ALL, 6)


class Nots(SearchCase):
    RULES = FACTS + ("only(X) <- p(X), not(q(X))", "none <- not(s)", "some <- not(none)", "r(X) <- p(X), keep", "r(d)",
                     "left(X) <- not(only(X))")

    def test_goes_on_or_falls(self):
        self.assert_run(self.RULES, "not(z)", [[0]], ALL, 2)
        self.assert_run(self.RULES, "not(p(d))", [[0]], ALL, 2)
        self.assert_run(self.RULES, "not(p(a))", [], ALL, 2)
        self.assert_run(self.RULES, "not(s)", [], ALL, 2)
        self.assert_run(self.RULES, "p(X), not(q(X))", [("X = a", [1, 0])], ALL, 7)
        self.assert_run(self.RULES, "not(z), p(X)", [("X = a", [0, 1]), ("X = b", [0, 2]), ("X = c", [0, 3])], ALL, 3)

    def test_falls_as_soon_as_a_way_comes_to_its_end(self):
        rules = ("p <- q(X), r(X)", "p", "q(1)", "q(2)", "q(3)", "r(2)", "r(3)")
        self.assert_run(rules, "not(p)", [], ALL, 5)

    def test_with_an_unknown(self):
        self.assert_run(self.RULES, "not(p(X))", [], self.fault("open", "not(p(U1))"), 1)
        self.assert_run(self.RULES, "not(z(Y, X, Y))", [], self.fault("open", "not(z(U1, U2, U1))"), 1)
        self.assert_run(self.RULES, "X = f(Y, Z), not(p(g(Z, X)))", [], self.fault("open", "not(p(g(U1, f(U2, U1))))"),
                        2)
        self.assert_run(self.RULES, "not(p(X)), X = d", [], self.fault("open", "not(p(U1))"), 1)
        self.assert_run(self.RULES, "X = d, not(p(X))", [("X = d", [0, 0])], ALL, 3)

    def test_in_a_rule(self):
        self.assert_run(self.RULES, "only(X)", [("X = a", [7, 1, 0])], ALL, 8)
        self.assert_run(self.RULES, "none", [], ALL, 3)

    def test_in_a_rule_that_is_asked_within_a_not(self):
        self.assert_run(self.RULES, "some", [[9, 0]], ALL, 5)
        self.assert_run(self.RULES, "left(a)", [], ALL, 6)
        self.assert_run(self.RULES, "left(b)", [[12, 0]], ALL, 6)
        self.assert_run(self.RULES, "left(z)", [[12, 0]], ALL, 4)
        rules = ("a <- not(b)", "b <- not(c)", "c <- not(d)", "d")
        for word, good, count in (("d", True, 1), ("c", False, 3), ("b", True, 5), ("a", False, 7)):
            way = [rules.index("d") + 1] if word == "d" else [2, 0]
            self.assert_run(rules, word, [way] if good else [], ALL, count)

    def test_a_keep_within(self):
        self.assert_run(self.RULES, "not(r(a))", [], ALL, 4)
        self.assert_run(self.RULES, "not(r(d))", [], ALL, 3)
        rules = FACTS + ("k(X) <- keep, q(X)", "k(a)", "m(X) <- p(X), not(k(X)), q(Y)", "m(e)")
        self.assert_run(rules, "not(k(a))", [[0]], ALL, 4)
        self.assert_run(rules, "m(X)", [("X = a", [9, 1, 0, 5]), ("X = a", [9, 1, 0, 6]), ("X = e", [10])], ALL, 15)

    def test_a_keep_within_lets_ways_behind_the_not_stay(self):
        rules = ("p(1)", "p(2)", "c <- keep, z", "c", "t(X) <- p(X), not(c)", "t(3)")
        self.assert_run(rules, "t(X)", [("X = 1", [5, 1, 0]), ("X = 2", [5, 2, 0]), ("X = 3", [6])], ALL, 10)

    def test_a_not_that_falls_lets_only_its_own_ways_go(self):
        rules = ("p(1)", "p(2)", "c", "c", "t(X) <- p(X), not(c)", "t(3)")
        self.assert_run(rules, "t(X)", [("X = 3", [6])], ALL, 6)

    def test_what_is_put_in_within_is_taken_out(self):
        rules = ("p(a, b) <- q(X), X = c", "q(d)", "q(X) <- z")
        self.assert_run(rules, "Y = a, not(p(Y, b)), Z = Y", [("Y = a, Z = a", [0, 0, 0])], ALL, 7)

    def test_a_keep_ahead_of_and_behind_a_not(self):
        self.assert_run(self.RULES, "p(X), keep, not(q(X))", [("X = a", [1, 0, 0])], ALL, 4)
        self.assert_run(self.RULES, "p(X), not(z), keep", [("X = a", [1, 0, 0])], ALL, 4)

    def test_faults_and_ends_within(self):
        rules = ("p(X) <- Y := X / 0", "big(X) <- z(f(X, X))", "long(X) <- long(X)", "p2 <- not(p2(X))")
        self.assert_run(rules, "not(p(1))", [], self.fault("nought", "U1 := 1 / 0"), 3)
        self.assert_run(rules, "not(p2)", [], self.fault("open", "not(p2(U1))"), 3)
        self.assert_run(rules, "not(long(a))", [], SPENT, 30, 30)
        told = search(rules_of(*rules), [t("=", X, nested(20)), t("not", t("big", X))])
        self.assertEqual(told, ([], BIG, 4))


class Bounds(SearchCase):
    def test_the_bound_met_at_each_kind_of_goal(self):
        for goal in ("p(X)", "z", "X = a", "a = b", "X := 1", "1 < 2", "2 < 1", "1 <= 2", "keep", "X := a", "X < 1",
                     "not(p(X))", "not(z)"):
            self.assert_run(FACTS, goal, [], SPENT, 0, 0)
            self.assert_run(FACTS, "s, " + goal, [], SPENT, 1, 1)
            self.assert_run(FACTS, "s, s, s, " + goal, [], SPENT, 3, 3)

    def test_a_bound_that_is_just_enough(self):
        for goal, answers in (("p(X)", [("X = a", [4, 1]), ("X = b", [4, 2]), ("X = c", [4, 3])]), ("z", []),
                              ("X = a", [("X = a", [4, 0])]),
                              ("a = b", []), ("X := 1", [("X = 1", [4, 0])]), ("1 < 2", [[4, 0]]), ("2 < 1", []),
                              ("keep", [[4, 0]])):
            self.assert_run(FACTS, "s, " + goal, answers, ALL, 2, 2)

    def test_the_goal_within_a_not_counts_too(self):
        for goal in ("not(z)", "not(s)"):
            self.assert_run(FACTS, goal, [], SPENT, 0, 0)
            self.assert_run(FACTS, goal, [], SPENT, 1, 1)
        self.assert_run(FACTS, "not(z)", [[0]], ALL, 2, 2)
        self.assert_run(FACTS, "not(s)", [], ALL, 2, 2)
        self.assert_run(FACTS, "not(z), not(z)", [], SPENT, 2, 2)
        self.assert_run(FACTS, "not(z), not(z)", [], SPENT, 3, 3)
        self.assert_run(FACTS, "not(z), not(z)", [[0, 0]], ALL, 4, 4)

    def test_answers_ahead_of_the_bound_stay(self):
        self.assert_run(FACTS, "p(X), q(X)", [("X = b", [2, 5])], SPENT, 3, 3)
        self.assert_run(FACTS, "p(X), q(X)", [("X = b", [2, 5]), ("X = c", [3, 6])], ALL, 4, 4)
        self.assert_run(FACTS, "p(X), q(Y)", [("X = a, Y = b", [1, 5]), ("X = a, Y = c", [1, 6])], SPENT, 2, 2)

    def test_the_bound_goes_ahead_of_all_else(self):
        self.assert_run((), "X = a, X := b", [], SPENT, 1, 1)
        told = search([], [t("=", X, nested(20)), t("=", v("Y"), t("f", X, X))], 1)
        self.assertEqual(told, ([], SPENT, 1))

    def test_a_row_without_an_end(self):
        rules = ("p(X) <- p(f(X))", "q(X) <- q(X)", "r <- r, r")
        for bound in (0, 1, 2, 77, 200, 400):
            self.assert_run(rules, "q(a)", [], SPENT, bound, bound)
            self.assert_run(rules, "r", [], SPENT, bound, bound)
        self.assert_run(rules, "q(a)", [], SPENT, 200)
        self.assert_run(rules, "p(a)", [], BIG, 40)

    def test_the_default_bound(self):
        # The last goal, n(0), tries the second rule, too, whose comparison falls.
        rules = ("n(0)", "n(N) <- 0 < N, M := N - 1, n(M)")
        self.assert_run(rules, "n(49)", [[2, 0, 0] * 49 + [1]], ALL, 149)
        self.assert_run(rules, "n(66)", [[2, 0, 0] * 66 + [1]], ALL, 200)
        self.assert_run(rules, "n(67)", [], SPENT, 200)
        self.assert_run(rules, "n(67)", [[2, 0, 0] * 67 + [1]], SPENT, 202, 202)
        self.assert_run(rules, "n(67)", [[2, 0, 0] * 67 + [1]], ALL, 203, 203)
        self.assert_run(rules, "n(132)", [[2, 0, 0] * 132 + [1]], ALL, 398, 400)


class BigOnes(SearchCase):
    """Goals as they read, and answers, of forty parts and of more."""

    def test_each_kind_of_goal(self):
        rules = rules_of("p(X, Y, Z) <- z")
        for many in range(38, 45):
            puts = {"X": nested(20), "Y": nested(many - 22)}
            goals = [t("=", v(name), term) for name, term in puts.items()]
            for last, end, count in (
                (t("p", X, v("Y"), A), ALL, 4),
                (t("z", A, X, v("Y")), ALL, 3),
                (t("=", t("f", X), v("Y")), ALL, 3),
                (t("<", t("f", X), v("Y")), "kind", 3),
                (t("<=", v("Y"), t("f", X)), "kind", 3),
                (t(":=", t("f", X), v("Y")), "kind", 3),
                (t("not", t("z", X, v("Y"))), ALL, 4),
            ):
                reading = plainly_put(last, puts)
                self.assertEqual(count_parts(reading), many)
                with self.subTest(many=many, last=last[1]):
                    told = search(rules, goals + [last])
                    expected = (("fault", "kind", reading) if end == "kind" else end, count)
                    self.assertEqual(told[1:], expected if many <= 40 else (BIG, 3))

    def test_a_goal_that_is_big_by_unknowns_that_stand_often(self):
        deep = nested(12)
        for kids, end in ((3, ALL), (4, BIG)):
            goals = [t("=", X, deep), t("=", v("Y"), t("f", *[v("X")] * kids))]
            told = search([], goals)
            # Three times twelve parts, f, Y and the mark; and the answer has X, too.
            self.assertEqual(told, ([], BIG, 2))
            told = search(rules_of("s"), [goals[0], t("z", *[v("X")] * kids)])
            self.assertEqual(told[1:], (end, 2))

    def test_a_goal_with_very_many_parts(self):
        rules = rules_of("d(X, f(X, X))", "two(X, Z) <- d(X, Y), d(Y, Z)", "z")
        # Z reads with 31 parts, W would with 127.
        self.assertEqual(search(rules, goals_of("two(X, Y), two(Y, Z), z(Z)"))[1:], (ALL, 7))
        self.assertEqual(search(rules, goals_of("two(X, Y), two(Y, Z), two(Z, W)"))[1:], (BIG, 9))
        doubles = t("=", term_of("[X, Y, Z]"), term_of("[f(Y, Y, Y, Y), f(Z, Z, Z, Z), f(a)]"))
        self.assertEqual(search([], [doubles])[1:], (BIG, 1))
        self.assertEqual(search(rules, [doubles, t("z")])[1:], (BIG, 2))
        self.assertEqual(search(rules, [doubles, t("z", v("Y"))])[1:], (ALL, 2))
        self.assertEqual(search(rules, [doubles, t("z", X, v("Z"))])[1:], (ALL, 2))
        self.assertEqual(search(rules, [doubles, t("z", X, v("Z"), A)])[1:], (BIG, 2))

    def test_answers_whose_terms_together_are_big(self):
        for first, second in ((20, 20), (22, 18), (20, 21), (22, 19), (22, 22)):
            goals = [t("=", X, nested(first)), t("=", v("Y"), nested(second))]
            told = search([], goals)
            if first + second <= 40:
                self.assertEqual(told, ([([("X", nested(first)), ("Y", nested(second))], [0, 0])], ALL, 2))
            else:
                self.assertEqual(told, ([], BIG, 2))

    def test_the_same_unknowns_in_many_pairs_count_each_time(self):
        goals = [t("=", X, nested(20)), t("=", v("Y"), X)]
        self.assertEqual(search([], goals)[0][0][0], [("X", nested(20)), ("Y", nested(20))])
        self.assertEqual(search([], goals + [t("=", v("Z"), A)]), ([], BIG, 3))

    def test_a_question_of_more_than_forty_unknowns(self):
        for many, end in ((40, ALL), (41, BIG)):
            names = [f"X{k}" for k in range(many)]
            goals = [t("p", *[v(name) for name in names[k:k + 4]]) for k in range(0, many, 4)]
            rules = rules_of("p(A, B, C, D)", "p(A)")
            told = search(rules, goals)
            self.assertEqual(told[1:], (end, len(goals)))
            if end == ALL:
                self.assertEqual(told[0][0][0], [(f"X{k}", v(f"U{k + 1}")) for k in range(many)])

    def test_answers_ahead_of_a_big_one_stay(self):
        rules = rules_of("p(a)", "p(X) <- X = " + "f(" * 20 + "a" + ")" * 20, "p(b)")
        told = search(rules, goals_of("p(X), p(Y)"))
        self.assertEqual(told[1:], (BIG, 6))
        self.assertEqual([pair[1] for pair in told[0]], [[1, 1], [1, 2, 0], [1, 3], [2, 0, 1]])

    def test_a_big_answer_is_big_also_where_enough_would_come(self):
        goals = [t("=", X, nested(22)), t("=", v("Y"), nested(22))]
        self.assertEqual(search([], goals, 200, 1), ([], BIG, 2))


class Answers(SearchCase):
    def test_a_question_of_no_goals(self):
        for rules in ((), FACTS):
            self.assert_run(rules, "", [[]], ALL, 0)
            self.assert_run(rules, "", [[]], ALL, 0, 0)
            self.assert_run(rules, "", [[]], ALL, 0, 400, 40)
            self.assert_run(rules, "", [[]], ENOUGH, 0, 200, 1)
            self.assert_run(rules, "", [[]], ENOUGH, 0, 0, 1)

    def test_a_question_without_unknowns(self):
        told = self.assert_run(("a", "b", "a <- b"), "a", [[1], [3, 2]], ALL, 2)
        self.assertEqual(told[0], [([], [1]), ([], [3, 2])])

    def test_pairs_in_the_order_in_which_the_unknowns_first_stand(self):
        rules = ("p(1, 2, 3)",)
        self.assert_run(rules, "p(Z, X, Y)", [("Z = 1, X = 2, Y = 3", [1])], ALL, 1)
        self.assert_run(rules, "W = f(Y), p(X, Y, 3)", [("W = f(2), Y = 2, X = 1", [0, 1])], ALL, 2)
        self.assert_run(rules, "X = X, p(1, 2, 3), Y = X", [("X = U1, Y = U1", [0, 1, 0])], ALL, 3)

    def test_told_anew_all_together(self):
        self.assert_run((), "X = f(Y), Z = Z", [("X = f(U1), Y = U1, Z = U2", [0, 0])], ALL, 2)
        self.assert_run((), "X = Y, Y = Z", [("X = U1, Y = U1, Z = U1", [0, 0])], ALL, 2)
        self.assert_run((), "f(X, Y) = f(g(Z, Y), h(W))", [("X = g(U1, h(U2)), Y = h(U2), Z = U1, W = U2", [0])], ALL,
                        1)
        self.assert_run(("p([A, B | C])",), "p(X)", [("X = [U1, U2 | U3]", [1])], ALL, 1)
        self.assert_run(("p(A, B)",), "p(X, Y), X = Z", [("X = U1, Y = U2, Z = U1", [1, 0])], ALL, 2)

    def test_an_askers_u1_is_not_an_answers_u1(self):
        self.assert_run((), "U2 = f(U1), U3 = a", [("U2 = f(U1), U1 = U1, U3 = a", [0, 0])], ALL, 2)
        self.assert_run((), "X = U2, U1 = a", [("X = U1, U2 = U1, U1 = a", [0, 0])], ALL, 2)
        self.assert_run((), "U2 = U2, U1 = U1", [("U2 = U1, U1 = U2", [0, 0])], ALL, 2)

    def test_names_that_were_marked_come_back_to_who_handed_them_in(self):
        told = search([], [t("=", v("X.3"), t("f", v("Y.3.7")))])
        self.assertEqual(told, ([([("X.3", t("f", v("U1"))), ("Y.3.7", v("U1"))], [0])], ALL, 1))

    def test_as_many_as_wished(self):
        rules = ("p(1)", "p(2)", "p(3)")
        answers = [("X = 1", [1]), ("X = 2", [2]), ("X = 3", [3])]
        self.assert_run(rules, "p(X)", answers[:1], ENOUGH, 1, 200, 1)
        self.assert_run(rules, "p(X)", answers[:2], ENOUGH, 1, 200, 2)
        self.assert_run(rules, "p(X)", answers, ENOUGH, 1, 200, 3)
        self.assert_run(rules, "p(X)", answers, ALL, 1, 200, 4)
        self.assert_run(rules, "p(X)", answers, ENOUGH, 1, 1, 3)

    def test_enough_whatever_is_left(self):
        rules = ("p(1)", "p(X) <- Y := a", "p(X) <- p(X)")
        self.assert_run(rules, "p(X)", [("X = 1", [1])], ENOUGH, 1, 200, 1)
        self.assert_run(rules, "p(X)", [("X = 1", [1])], ENOUGH, 1, 1, 1)
        self.assert_run(rules, "p(X)", [("X = 1", [1])], self.fault("kind", "U1 := a"), 2, 200, 2)
        self.assert_run(FACTS, "s", [[4]], ENOUGH, 1, 200, 1)

    def test_the_default_wish(self):
        rules = tuple(f"p({k})" for k in range(40))
        for most, many in (((), 10), ((9,), 9), ((11,), 11), ((39,), 39), ((40,), 40)):
            limits = (200,) + most if most else ()
            self.assert_run(rules, "p(X)", [(f"X = {k}", [k + 1]) for k in range(many)], ENOUGH, 1, *limits)
        self.assert_run(rules[:10], "p(X)", [(f"X = {k}", [k + 1]) for k in range(10)], ENOUGH, 1)
        self.assert_run(rules[:9], "p(X)", [(f"X = {k}", [k + 1]) for k in range(9)], ALL, 1)
        self.assert_run(("n(0)", "n(N) <- n(M), N := M + 1"), "n(X)",
                        [(f"X = {k}", [2] * k + [1] + [0] * k) for k in range(10)], ENOUGH, 55)

    def test_the_same_answer_by_several_ways(self):
        self.assert_run(("p(a)", "p(X) <- q(X)", "q(a)", "p(a)"), "p(X)",
                        [("X = a", [1]), ("X = a", [2, 3]), ("X = a", [4])], ALL, 2)

    def test_goals_within_a_not_are_not_on_the_way(self):
        rules = ("p <- q, not(r), s", "q", "r <- t, z", "r <- t", "t <- z", "s")
        self.assert_run(rules, "p", [[1, 2, 0, 6]], ALL, 9)


class BesideASlowOne(SearchCase):
    def test_some_programs(self):
        chance = Chance(51)
        ends = {}
        kept = 0
        for again in range(5000):
            rules, goals = chance.rules(), chance.question()
            bound, most = chance.pick(0, 1, 2, 3, 5, 8, 20, 40), chance.pick(1, 2, 3, 10)
            told = search(rules, goals, bound, most)
            self.assertEqual(told, slowly_searched(rules, goals, bound, most), (rules, goals, bound, most))
            self.assert_form(told)
            end = told[1][0] if told[0] else told[1][0] + " without answers"
            ends[end] = ends.get(end, 0) + 1
            for answer, way in told[0]:
                kept += 1
                self.assertEqual(led_to(rules, goals, way), answer)
        for end in ("all", "all without answers", "enough", "fault without answers", "spent", "spent without answers",
                    "big without answers"):
            self.assertGreater(ends.get(end, 0), 30, ends)
        self.assertGreater(kept, 1000)

    def test_programs_by_hand(self):
        rules = rules_of(*LISTS, *FAMILY, "rev([], [])", "rev([H | T], R) <- rev(T, S), app(S, [H], R)", "len([], 0)",
                         "len([H | T], N) <- len(T, M), N := M + 1", "set([], [])",
                         "set([H | T], S) <- in(H, T), keep, set(T, S)", "set([H | T], [H | S]) <- set(T, S)",
                         "odd(N) <- 0 < N, M := N - 1, not(odd(M))", "alone(X) <- child(Y, X), not(grandof(X))",
                         "grandof(X) <- grand(Y, X)")
        for text in ("rev([1, 2, 3, 4], X)", "rev(X, [1, 2])", "len([a, b, c], N)", "len(X, N)",
                     "set([a, b, a, c, b], X)", "odd(7)",
                     "odd(6)", "alone(X)", "below(X, Y)", "grand(X, Y), below(X, Y)", "below(ann, X), not(alone(X))",
                     "app(X, X, Y)",
                     "in(X, [1, 2, 3]), odd(X), keep, in(Y, [X, 4])", "app(X, Y, Z)", "in(X, Y)", "set(X, [a])"):
            for bound, most in ((5, 3), (25, 10), (60, 10), (60, 1)):
                told = search(rules, goals_of(text), bound, most)
                self.assertEqual(told, slowly_searched(rules, goals_of(text), bound, most))
                self.assert_form(told)
                for answer, way in told[0]:
                    self.assertEqual(led_to(rules, goals_of(text), way), answer)


class Long(SearchCase):
    """Ways of four hundred goals, without deep recursion."""

    def long_run(self, rules, question, bound=400, most=10):
        told_rules, goals = rules_of(*rules), goals_of(question)
        return called_within(120, lambda: search(told_rules, goals, bound, most))

    def test_rows_of_goals(self):
        self.assertEqual(self.long_run(("p <- p",), "p"), ([], SPENT, 400))
        self.assertEqual(self.long_run(("p <- p, p", "p"), "p"), ([], SPENT, 400))
        self.assertEqual(self.long_run(("p <- p, p, p, p, p, p",), "p"), ([], SPENT, 400))
        told = self.long_run(("n(0)", "n(N) <- 0 < N, M := N - 1, n(M)"), "n(132)")
        self.assertEqual(told, ([([], [2, 0, 0] * 132 + [1])], ALL, 398))

    def test_ways_left_at_each_goal(self):
        told = self.long_run(("p", "p <- p"), "p", 400, 40)
        self.assertEqual(told, ([([], [2] * k + [1]) for k in range(40)], ENOUGH, 40))
        told = self.long_run(("p <- q, p", "p", "q", "q"), "p", 400, 40)
        self.assertEqual(told, ([], SPENT, 400))
        told = self.long_run(("p(N) <- N < 198, M := N + 1, p(M)", "p(N) <- z"), "p(0)", 400)
        self.assertEqual(told[1:], (SPENT, 400))

    def test_all_ways_fall_one_behind_the_other(self):
        rules = tuple(f"a{k} <- a{k + 1}" for k in range(19)) + tuple(f"a{k}" for k in range(20))
        told = self.long_run(rules, "a0, z")
        self.assertEqual(told, ([], ALL, 40))

    def test_nots_within_nots(self):
        self.assertEqual(self.long_run(("a <- not(a)",), "a"), ([], SPENT, 400))
        told = self.long_run(("even(N) <- N = 0, keep", "even(N) <- M := N - 1, not(even(M))"), "even(79)")
        # Four goals for each number above nought, its not among them, and three for nought.
        self.assertEqual(told, ([], ALL, 319))
        told = self.long_run(("even(N) <- N = 0, keep", "even(N) <- M := N - 1, not(even(M))"), "even(80)")
        self.assertEqual(told, ([([], [2, 0, 0])], ALL, 323))
        told = self.long_run(("b <- not(c)", "c <- keep, not(b)"), "b")
        self.assertEqual(told, ([], SPENT, 400))

    def test_keeps_at_each_goal(self):
        told = self.long_run(("p(N) <- N < 99, keep, M := N + 1, p(M)", "p(99)"), "p(0)")
        self.assertEqual(told, ([([], [1, 0, 0, 0] * 99 + [2])], ALL, 398))

    def test_long_rows_of_unknowns(self):
        rules = ("p(X, N) <- N < 130, M := N + 1, p(Y, M)", "q(X, N) <- N < 99, M := N + 1, X = Y, q(Y, M)",
                 "q(X, 99) <- X = a")
        told = self.long_run(rules, "p(X, 0)")
        self.assertEqual(told[1:], (ALL, 392))
        told = self.long_run(rules, "q(X, 0)")
        self.assertEqual(told, ([([("X", A)], [2, 0, 0, 0] * 99 + [3, 0])], ALL, 399))

    def test_forty_rules_at_each_goal(self):
        rules = tuple(f"p(f({k}, X), Y) <- p(X, Y)" for k in range(39)) + ("p(X, Y) <- p(X, Y)",)
        self.assertEqual(self.long_run(rules, "p(a, b)"), ([], SPENT, 400))


class Everywhere(SearchCase):
    def test_what_is_handed_in_stays(self):
        rules = rules_of(*LISTS, *FACTS, "r(X) <- p(X), not(q(X)), keep")
        for question in ("app(X, Y, [1, 2])", "r(X), in(Y, [X, b])", "X := a", "not(p(X))", ""):
            goals = goals_of(question)
            before = copy.deepcopy((rules, goals))
            search(rules, goals)
            search(rules, goals, 3, 1)
            self.assertEqual((rules, goals), before)

    def test_what_is_given_is_the_askers_own(self):
        rules, goals = rules_of(*FACTS), goals_of("p(X)")
        first = search(rules, goals)
        kept = copy.deepcopy(first)
        first[0][0][0].append(("Y", B))
        first[0][0][1].append(7)
        first[0].append(([], []))
        self.assertEqual(search(rules, goals), kept)
        self.assertEqual(first[0][1], kept[0][1])
        empty = search(rules, [])
        empty[0][0][0].append(("Y", B))
        empty[0][0][1].append(7)
        self.assertEqual(search(rules, []), ([([], [])], ALL, 0))

    def test_no_list_is_given_twice(self):
        told = search(rules_of("p(1)", "p(2)", "q", "q"), goals_of("p(X), q"))
        told[0][0][1].append(9)
        told[0][0][0].clear()
        self.assertEqual([answer_shown(pair[0]) for pair in told[0]], ["", "X = 1", "X = 2", "X = 2"])
        self.assertEqual([pair[1] for pair in told[0]], [[1, 3, 9], [1, 4], [2, 3], [2, 4]])

    def test_what_is_handed_in_changed_later_changes_no_answer_given(self):
        rules, goals = rules_of(*FACTS), goals_of("p(X), s")
        told = search(rules, goals)
        kept = copy.deepcopy(told)
        rules.clear()
        goals.clear()
        self.assertEqual(told, kept)

    def test_the_same_question_has_the_same_answer(self):
        rules, goals = rules_of(*LISTS), goals_of("app(X, Y, Z), in(a, Z)")
        tolds = [search(rules, goals, 40, 5) for again in range(3)]
        self.assertEqual(tolds[0], tolds[1])
        self.assertEqual(tolds[0], tolds[2])


if __name__ == "__main__":
    unittest.main()
