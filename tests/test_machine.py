import copy
import random
import unittest
from unittest import mock

from goaltrail.machine import run
from goaltrail.maker import code_of
from goaltrail.search import search
from goaltrail.switches import switch_of
from tests import test_search
from tests.helper import (
    A, FACTS, FAMILY, LISTS, Chance, called, called_within, count_parts, goals_of, n, names_in, plainly_put, rules_of,
    slow_sum, slowly_made_one, t, told_of, v,
)
from tests.test_maker import rule_back

ALL = ("all",)
SPENT = ("spent",)
BIG = ("big",)
ENOUGH = ("enough",)


def machine_search(rules, goals, *limits):
    """What the machine tells, as the searcher would: the first three of its four."""
    return run(code_of(rules), goals, *limits)[:3]


class ByMachine:
    """The searcher's own tests, asked of the machine."""

    def setUp(self):
        patch = mock.patch("tests.test_search.search", machine_search)
        patch.start()
        self.addCleanup(patch.stop)


class NamedGoals(ByMachine, test_search.NamedGoals):
    pass


class MarkGoals(ByMachine, test_search.MarkGoals):
    pass


class Keeps(ByMachine, test_search.Keeps):
    pass


class Nots(ByMachine, test_search.Nots):
    pass


class Bounds(ByMachine, test_search.Bounds):
    pass


class BigOnes(ByMachine, test_search.BigOnes):
    pass


class Answers(ByMachine, test_search.Answers):
    pass


class BesideASlowSearcher(ByMachine, test_search.BesideASlowOne):
    pass


class Long(ByMachine, test_search.Long):
    pass


class SearchersEverywhere(ByMachine, test_search.Everywhere):
    pass


class Form(unittest.TestCase):
    def test_a_tuple_of_four(self):
        told = run(code_of(rules_of(*FACTS)), goals_of("p(X)"))
        self.assertIs(told.__class__, tuple)
        self.assertEqual(len(told), 4)
        self.assertIs(told[3].__class__, int)
        self.assertEqual(told[1:], (ALL, 1, 1))

    def test_the_defaults(self):
        self.assertEqual(run(code_of(rules_of("p <- p")), goals_of("p"))[1:3], (SPENT, 200))
        rules = [(t("p", n(k)), ()) for k in range(40)]
        told = run(code_of(rules), goals_of("p(X)"))
        self.assertEqual((len(told[0]), told[1]), (10, ENOUGH))
        self.assertEqual(len(run(code_of(rules), goals_of("p(X)"), 1, 40)[0]), 40)

    def test_a_goal_of_a_word_that_is_no_key_falls(self):
        self.assertEqual(run({}, goals_of("p(X)")), ([], ALL, 1, 1))
        self.assertEqual(run({}, goals_of("not(p)")), ([([], [0])], ALL, 2, 1))
        self.assertEqual(run({}, goals_of("p"), 0), ([], SPENT, 0, 1))
        self.assertEqual(run(code_of(rules_of("p <- z", "p")), goals_of("p")), ([([], [2])], ALL, 2, 2))
        self.assertEqual(run({}, []), ([([], [])], ALL, 0, 1))


# Code that the maker does not make.

class OtherMaker:
    """The head's rows in another order, other cells, any d of apps without kids."""

    def __init__(self, source):
        self.source = source

    def cells_beside(self, used, many):
        while True:
            first = self.source.randrange(200 - many)
            if not used.intersection(range(first, first + many)):
                used.update(range(first, first + many))
                return first

    def head_rows(self, kids, slots):
        used = set(range(len(kids)))
        todo, met, rows = list(enumerate(kids)), set(), []
        while todo:
            cell, term = todo.pop(self.source.randrange(len(todo)))
            if term[0] == "num":
                rows.append(("num", cell, term[1]))
            elif term[0] == "any":
                rows.append(("same" if term in met else "slot", cell, slots[term[1]]))
                met.add(term)
            else:
                many = len(term[2])
                first = self.cells_beside(used, many) if many else self.source.randrange(-9, 999)
                rows.append(("app", cell, term[1], many, first))
                todo.extend((first + place, kid) for place, kid in enumerate(term[2]))
        return rows, {name for mark, name in met}

    def bring(self, cell, term, slots, used):
        if term[0] != "app":
            return [("put", cell, slots[term[1]]) if term[0] == "any" else ("putnum", cell, term[1])]
        many = len(term[2])
        if not many:
            return [("build", cell, term[1], 0, self.source.randrange(-9, 999))]
        first = self.cells_beside(used, many)
        rows = []
        for place in self.source.sample(range(many), many):
            rows.extend(self.bring(first + place, term[2][place], slots, used))
        used.difference_update(range(first, first + many))
        return rows + [("build", cell, term[1], many, first)]

    def goal_rows(self, goal, slots, is_last):
        asked = goal[2][0] if goal[1] == "not" else goal
        used = set(range(len(asked[2])))
        rows = []
        for place in self.source.sample(range(len(asked[2])), len(asked[2])):
            rows.extend(self.bring(place, asked[2][place], slots, used))
        words = {"=": "equal", ":=": "reckon", "<": "less", "<=": "atmost", "keep": "keep"}
        if goal[1] in words:
            return rows + [(words[goal[1]],)]
        call = "not" if goal[1] == "not" else "jump" if is_last else "call"
        return rows + [(call, asked[1], len(asked[2]))]

    def rule_code(self, number, told):
        terms = [told[0]] + list(told[1])
        names = dict.fromkeys(name for term in terms for name in names_in(term))
        slots = {name: place for place, name in enumerate(names)}
        rows, met = self.head_rows(told[0][2], slots)
        if told[1]:
            rows.append(("frame",))
            new = [("new", slots[name]) for name in slots if name not in met]
            rows.extend(self.source.sample(new, len(new)))
            for place, goal in enumerate(told[1]):
                rows.extend(self.goal_rows(goal, slots, place + 1 == len(told[1])))
        if rows[-1:] == [] or rows[-1][0] != "jump":
            rows.append(("back",))
        return (number, len(slots), rows)

    def code_of(self, rules):
        found = {}
        for number, told in enumerate(rules, 1):
            found.setdefault((told[0][1], len(told[0][2])), []).append((number, told))
        return {key: ([self.rule_code(number, told) for number, told in numbered],
                      switch_of([told[0] for number, told in numbered])) for key, numbered in found.items()}


class OtherCode(unittest.TestCase):
    def test_it_is_code_of_the_same_rules(self):
        maker = OtherMaker(random.Random(71))
        for told in rules_of(*LISTS, *FAMILY, "p(f(X, g(Y, X)), [1, a]) <- Y = f(Z), q(f(a), g(Z, f(X)))"):
            back = rule_back(maker.rule_code(1, told), told[0][1], len(told[0][2]))
            self.assertEqual(len(back[1]), len(told[1]))
            self.assertEqual(rule_back(code_of([told])[(told[0][1], len(told[0][2]))][0][0], told[0][1],
                                       len(told[0][2])), back)

    def test_some_programs(self):
        maker, chance = OtherMaker(random.Random(72)), Chance(73)
        for again in range(1500):
            rules, goals = chance.rules(), chance.question()
            limits = chance.pick(0, 3, 10, 40, 100), chance.pick(1, 3, 10)
            told = run(maker.code_of(rules), goals, *limits)
            self.assertEqual(told[:3], search(rules, goals, *limits), (rules, goals, limits))
            self.assertEqual(told, run(code_of(rules), goals, *limits))

    def test_programs_by_hand(self):
        maker = OtherMaker(random.Random(74))
        for again in range(10):
            code = maker.code_of(rules_of(*LISTS, "rev([], [])", "rev([H | T], R) <- rev(T, S), app(S, [H], R)"))
            told = run(code, goals_of("rev([1, f(2), 3], X), in(f(Y), X)"))
            self.assertEqual(told[0][0][0], [("X", goals_of("p([3, f(2), 1])")[0][2][0]), ("Y", n(2))])

    def test_by_hand(self):
        # p(f(X, Y), X) <- q(g(Y), X), with cells that are used again, and a call in a jump's place.
        rows = [("app", 0, "f", 2, 100), ("slot", 101, 1), ("slot", 1, 0), ("same", 100, 0), ("frame",),
                ("put", 199, 1), ("put", 1, 0), ("build", 0, "g", 1, 199), ("jump", "q", 2)]
        other = [("slot", 1, 1), ("slot", 0, 0), ("back",)]
        code = {("p", 2): ([(1, 2, rows)], ({("app", "f", 2): 1}, 0, 1)), ("q", 2): ([(2, 2, other)], ({}, 1, 1))}
        self.assertEqual(run(code, goals_of("p(f(1, Z), W)")),
                         ([([("Z", v("U1")), ("W", n(1))], [1, 2])], ALL, 2, 2))


class BesideTheSearcher(unittest.TestCase):
    def test_some_programs(self):
        chance = Chance(75)
        ends = {}
        for again in range(3000):
            rules, goals = chance.rules(), chance.question()
            bound, most = chance.pick(0, 1, 2, 5, 20, 60, 150, 400), chance.pick(1, 2, 10, 40)
            told = search(rules, goals, bound, most)
            self.assertEqual(run(code_of(rules), goals, bound, most)[:3], told, (rules, goals, bound, most))
            ends[told[1][0]] = ends.get(told[1][0], 0) + 1
            ways = [way for answer, way in told[0]]
            self.assertEqual(ways, sorted(ways))
        self.assertGreater(min(ends.values()), 30, ends)
        self.assertEqual(len(ends), 5)

    def test_each_bound_and_wish(self):
        rules = rules_of(*LISTS, *FAMILY, "rev([], [])", "rev([H | T], R) <- rev(T, S), app(S, [H], R)",
                         "odd(N) <- 0 < N, M := N - 1, not(odd(M))", "one(X) <- in(X, [4, 5, 6]), keep, odd(X)")
        code = code_of(rules)
        for text in ("rev([1, 2, 3, 4], X)", "rev(X, [1, 2])", "below(X, Y), not(grand(X, Y))",
                     "in(X, [1, 2, 3]), odd(X)", "app(X, Y, [1, 2, 3]), rev(X, Y)", "app(X, X, Y)",
                     "in(X, [5, 4]), one(Y), Z := X + a"):
            goals = goals_of(text)
            for bound in list(range(30)) + [100, 200, 399, 400]:
                for most in (1, 2, 7, 40):
                    with self.subTest(text, bound=bound, most=most):
                        self.assertEqual(run(code, goals, bound, most)[:3], search(rules, goals, bound, most))


# Frames counted by a machine of its own, which has goals in the place of code: for the tests alone.

class SlowFrames:
    def __init__(self, rules, goals, bound, most):
        self.rules, self.bound, self.most = rules, bound, most
        self.todo = [("goal", goal, 0, 0, False) for goal in goals]
        self.puts, self.frames, self.greatest = {}, 1, 1
        self.ways, self.uses, self.count, self.told = [], 0, 0, 0

    def greatest_number(self):
        going = True
        while going is not None:
            going = self.go_on() if going else self.go_back()
        return self.greatest

    def go_back(self):
        if not self.ways:
            return None
        goal, rules, self.todo, self.puts, self.frames = self.ways.pop()
        return self.by_rule(goal, rules) if goal else True

    def let_go(self, frame):
        if not self.ways or self.ways[-1][4] <= frame:
            self.frames = frame

    def go_on(self):
        if not self.todo:
            self.told += 1
            return None if self.told == self.most else False
        item, self.todo = self.todo[0], self.todo[1:]
        if item[0] == "back":
            self.let_go(item[1])
            return True
        if item[0] == "not's end":
            self.ways = self.ways[:item[1]]
            return False
        return self.take_up(*item[1:])

    def take_up(self, goal, frame, height, is_last):
        if is_last:
            self.let_go(frame)
        if self.count == self.bound:
            return None
        self.count += 1
        goal = plainly_put(goal, self.puts)
        if count_parts(goal) > 40:
            return None
        if goal[1] == "keep":
            self.ways = self.ways[:height]
            return True
        if goal[1] == "not":
            if names_in(goal):
                return None
            self.ways.append((None, [], self.todo, self.puts, self.frames))
            self.todo = [("goal", goal[2][0], None, None, False), ("not's end", len(self.ways) - 1)]
            return True
        if goal[1] in ("=", ":=", "<", "<="):
            return self.by_mark(goal[1], *goal[2])
        return self.by_rule(goal, [told for told in self.rules if self.is_picked(goal, told[0])])

    def is_picked(self, goal, head):
        if (goal[1], len(goal[2])) != (head[1], len(head[2])):
            return False
        if not goal[2]:
            return True
        one, other = goal[2][0], head[2][0]
        return "any" in (one[0], other[0]) or told_of(one) == told_of(other)

    def by_mark(self, mark, left, right):
        if mark in ("<", "<="):
            left, right = slow_sum(left), slow_sum(right)
            if isinstance(left, str) or isinstance(right, str):
                return None
            return left < right or (mark == "<=" and left == right)
        if mark == ":=":
            right = n(slow_sum(right))
            if isinstance(right[1], str):
                return None
        return self.make_one(left, right)

    def make_one(self, left, right):
        told = slowly_made_one(left, right, self.puts)
        if told[0] != "one":
            return False
        self.puts = told[1]
        return True

    def by_rule(self, goal, rules):
        if not rules:
            return False
        height = len(self.ways)
        if rules[1:]:
            self.ways.append((goal, rules[1:], self.todo, self.puts, self.frames))
        self.uses += 1
        terms = [rules[0][0]] + list(rules[0][1])
        names = {name: f"{name}#{self.uses}" for term in terms for name in names_in(term)}
        head, *goals = [called(term, names) for term in terms]
        if not self.make_one(head, goal):
            return False
        if goals:
            frame = self.frames
            self.frames += 1
            self.greatest = max(self.greatest, self.frames)
            last_named = goals[-1][1] not in ("=", ":=", "<", "<=", "keep", "not")
            items = [("goal", one, frame, height, False) for one in goals]
            items[-1] = items[-1][:4] + (last_named,)
            self.todo = items + ([] if last_named else [("back", frame)]) + self.todo
        return True


class Frames(unittest.TestCase):
    def assert_frames(self, rules, question, frames, bound=400, most=40):
        with self.subTest(rules=rules, question=question, bound=bound):
            rules, goals = rules_of(*rules), goals_of(question)
            told = run(code_of(rules), goals, bound, most)
            self.assertEqual(told[:3], search(rules, goals, bound, most))
            self.assertEqual(told[3], frames)
            self.assertEqual(SlowFrames(rules, goals, bound, most).greatest_number(), frames)
        return told

    def test_the_questions_alone_is_one(self):
        self.assert_frames((), "", 1)
        self.assert_frames((), "p", 1)
        self.assert_frames((), "p", 1, 0)
        self.assert_frames((), "X = a, keep, not(q), Y := 1, 1 < 2", 1)

    def test_a_rule_without_goals_has_none(self):
        self.assert_frames(FACTS, "p(X), q(X), s, p(Y)", 1)

    def test_calls_within_calls(self):
        self.assert_frames(("p <- q, q", "q <- r, r", "r <- s, s", "s"), "p", 4)
        self.assert_frames(("p <- q", "q <- r", "r <- s", "s"), "p", 2)
        self.assert_frames(("p <- q, keep", "q <- r, keep", "r <- s, keep", "s"), "p", 4)
        self.assert_frames(("p <- q, q, q", "q <- s, s", "s"), "p, p", 3)
        self.assert_frames(("len([], 0)", "len([H | T], N) <- len(T, M), N := M + 1"), "len([a, b, c, d, e], N)", 6)

    def test_a_frame_is_made_behind_the_head_only(self):
        self.assert_frames(("p(a) <- q", "q"), "p(b)", 1)
        self.assert_frames(("p(X, a) <- q", "q"), "p(c, b)", 1)
        self.assert_frames(("p(X, a) <- q", "q"), "p(c, a)", 2)

    def test_a_row_of_last_askings_with_nothing_left_to_try(self):
        rules = ("n(0)", "n(N) <- 0 < N, M := N - 1, n(M)")
        for many in (1, 2, 100, 132):
            self.assert_frames(rules, f"n({many})", 2)
        self.assert_frames(("p <- p",), "p", 2)
        self.assert_frames(("a <- b", "b <- c, a", "c <- d, d", "d"), "a", 3)

    def test_a_row_of_last_askings_with_a_way_left_ahead_of_it(self):
        rules = ("n(0)", "n(N) <- 0 < N, M := N - 1, n(M)", "two", "two", "t(N) <- two, n(N)")
        for many in (2, 60):
            self.assert_frames(rules, f"two, n({many})", 2)
            self.assert_frames(rules, f"t({many})", 3)
        self.assert_frames(("p <- p", "p"), "p", 2)

    def test_ways_left_within_the_row_keep_frames(self):
        rules = ("p <- two, p", "two", "two")
        for bound in (1, 2, 3, 4, 20, 21, 400):
            self.assert_frames(rules, "p", 1 + (bound + 1) // 2, bound)
        self.assert_frames(("n(N) <- N = 0", "n(N) <- 0 < N, M := N - 1, n(M)"), "n(50)", 2)

    def test_behind_a_keep(self):
        rules = ("p <- two, keep, p", "two", "two", "q <- r, keep, q", "r <- two, s", "s", "u <- r, u")
        self.assert_frames(rules, "p", 2)
        self.assert_frames(rules, "q", 3)
        # Two frames stay each time: that of u, and that of r; two leaves a way there.
        self.assert_frames(rules, "u", 1 + 2 * 100)
        self.assert_frames(("p <- q, r", "q <- two, keep", "r <- s, s", "s", "two", "two"), "p", 3)

    def test_a_keep_alone_lets_no_frame_go(self):
        rules = ("p <- r, keep, q, s", "r <- two, s", "q <- s, s", "s", "two", "two")
        self.assert_frames(rules, "p", 4)

    def test_behind_a_not(self):
        rules = ("p <- not(q), p", "q <- r, z", "r <- s, s", "s", "t <- not(u), s, s", "t <- w, w", "u <- r, r",
                 "w <- r, s", "v <- not(q), not(z), w")
        self.assert_frames(rules, "p", 4)
        self.assert_frames(rules, "t", 4)
        self.assert_frames(rules, "v", 4)
        self.assert_frames(("a <- not(a)",), "a", 201)
        self.assert_frames(("p <- not(q), p", "q <- z"), "p", 3)

    def test_behind_a_fall_back(self):
        rules = ("p <- a, z", "p <- s, b", "a <- c, s", "c <- d, s", "d <- s, two", "two", "two", "b <- s, s", "s")
        self.assert_frames(rules, "p", 5)
        self.assert_frames(("p <- two, q", "q <- z", "two", "two <- p2, s", "p2 <- s, s", "s"), "p", 4)

    def test_a_back_keeps_what_a_way_would_go_on_in(self):
        # q's frame stays, as two left a way in it; so r's is made above it.
        rules = ("p <- q, r, s", "q <- two, s = s", "two", "two", "r <- s, s", "s", "o <- q2, r, s", "q2 <- s, s = s")
        self.assert_frames(rules, "p", 4)
        self.assert_frames(rules, "o", 3)

    def test_the_greatest_number_that_stood(self):
        rules = ("p(0) <- s, s", "p(N) <- 0 < N, M := N - 1, p(M), s", "s", "q <- p(3), s", "q <- p(1), s")
        self.assert_frames(rules, "q", 6)
        # That of p(1) stays below the others, as p(0) left a way behind in it.
        self.assert_frames(rules, "p(1), p(5), p(0)", 8)

    def test_switches_leave_no_ways(self):
        rules = ("m([]) <- s", "m([H | T]) <- k(H), m(T)", "k(a)", "k(b)", "k(1)", "s")
        self.assert_frames(rules, "m([a, b, 1, a, b, 1, a, b])", 2)
        # Here it is by the second kid that they part, of which a switch knows nothing.
        rules = ("m(X, []) <- s", "m(X, [H | T]) <- k(X, H), m(X, T)", "k(X, a)", "k(X, b)", "s")
        self.assert_frames(rules, "m(1, [a, a, a])", 5)
        self.assert_frames(rules, "m(1, [b, b, b])", 2)

    def test_by_chance(self):
        chance = Chance(76)
        greatest = {}
        for again in range(4000):
            rules, goals = chance.rules(), chance.question()
            limits = chance.pick(0, 1, 2, 5, 10, 25, 40), chance.pick(1, 2, 10)
            frames = run(code_of(rules), goals, *limits)[3]
            self.assertEqual(frames, SlowFrames(rules, goals, *limits).greatest_number(), (rules, goals, limits))
            greatest[frames] = greatest.get(frames, 0) + 1
        self.assertGreater(len(greatest), 8)


class LongOnes(unittest.TestCase):
    """Four hundred goals, without deep recursion."""

    def long_run(self, rules, question):
        code, goals = code_of(rules_of(*rules)), goals_of(question)
        told = called_within(100, lambda: run(code, goals, 400, 40))
        self.assertEqual(told[:3], search(rules_of(*rules), goals, 400, 40))
        return told

    def test_calls_and_nots(self):
        self.assertEqual(self.long_run(("p <- p, p",), "p"), ([], SPENT, 400, 401))
        self.assertEqual(self.long_run(("a <- not(a)",), "a"), ([], SPENT, 400, 201))
        self.assertEqual(self.long_run(("a <- not(b), a", "b <- not(a)"), "a")[1], SPENT)

    def test_terms_that_grow_twice_as_great_each_time(self):
        told = self.long_run(("p(N, X) <- N < 90, M := N + 1, q(f(X, X))", "q(X)"), "p(1, a)")
        self.assertEqual(told[1], ALL)
        rules = ("d(X, f(X, X))", "p(X, N) <- N < 100, M := N + 1, d(X, Y), p(Y, M)")
        self.assertEqual(self.long_run(rules, "p(a, 0)")[1], BIG)
        # Great terms that stand in no goal: the unknowns lead to twice the next one, and are made one.
        rules = ("p(X, Y, N) <- N < 95, M := N + 1, X = f(Z, Z), p(Z, Y, M)", "p(X, Y, 95)")
        self.assertEqual(self.long_run(rules, "p(X, Y, 0)")[1], BIG)
        rules = ("g(N) <- p(X, N), p(Y, N), X1 = X", "p(X, 0)", "p(f(Y, Y), N) <- 0 < N, M := N - 1, p(Y, M)")
        self.assertEqual(self.long_run(rules, "g(3)")[1], ALL)
        self.assertEqual(self.long_run(rules, "g(40)")[1], BIG)


class Everywhere(unittest.TestCase):
    def test_what_is_handed_in_stays(self):
        code = code_of(rules_of(*LISTS, *FACTS, "r(X) <- p(X), not(q(X)), keep"))
        for question in ("app(X, Y, [1, 2])", "r(X), in(Y, [X, b])", "X := a", "not(p(X))", ""):
            goals = goals_of(question)
            before = copy.deepcopy((code, goals))
            run(code, goals)
            run(code, goals, 3, 1)
            self.assertEqual((code, goals), before)

    def test_what_is_given_is_the_askers_own(self):
        code, goals = code_of(rules_of(*FACTS)), goals_of("p(X), s")
        told = run(code, goals)
        kept = copy.deepcopy(told)
        told[0][0][0].append(("Y", A))
        told[0][0][1].append(7)
        told[0].pop()
        self.assertEqual(run(code, goals), kept)
        told = run(code, goals)
        goals.clear()
        code.clear()
        self.assertEqual(told, kept)


if __name__ == "__main__":
    unittest.main()
