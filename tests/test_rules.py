import copy
import unittest

from goaltrail.rules import is_goal, is_named, question, rule
from tests.helper import A, B, NIL, X, assert_refused, cons, count_parts, listed, n, nested, t, v

Y = v("Y")
P = t("p", X)
KEEP = t("keep")
NAMED = (A, t("p", A), t("p", A, X), t("p", A, B, X), t("p", A, B, X, n(1)), t("abcdefghij12", X), t("keeper"),
         t("notes", X), t("infix", A), t("nots"), t("keeps"), t("yes"))
NEVER = (n(0), n(5), n(-5), X, v("X.3"), NIL, cons(A, X), listed(A, B), t("+", A, B), t("-", A, B), t("*", A, B),
         t("/", A, B), t("/:", A, B), t(">", A, B), t(">=", A, B), t("==", A, B), t("^", A, B), t(":", A, B),
         t("=<", A, B), t("<<", A, B), t("=:", A, B), t("->", A, B),
         t("keep", A), t("keep", X), t("keep", A, B), t("keep", KEEP), t("keep", A, B, A, B),
         t("not"), t("not", P, P), t("not", P, P, P), t("not", P, P, P, P),
         t("not", t("not", P)), t("not", KEEP), t("not", t("=", A, A)), t("not", t(":=", X, n(1))),
         t("not", t("<", n(1), n(2))), t("not", t("<=", n(1), n(2))), t("not", t("+", A, B)), t("not", X),
         t("not", v("X.3")), t("not", n(5)), t("not", NIL), t("not", listed(A)), t("not", t("keep", A)),
         t("not", t("not")), t("not", t("not", P, P)))
# Goals that are not named ones.
OTHERS = (KEEP, t("not", P), t("not", A), t("not", t("p", A, B, X, Y)), t("not", t("keeper")), t("not", t("notes", X)),
          t("=", A, X), t(":=", X, t("+", X, n(1))), t("<", n(1), n(2)), t("<=", X, Y), t("=", KEEP, t("not", X)),
          t("=", n(1), NIL))


class IsNamed(unittest.TestCase):
    def test_apps_of_words_but_keep_and_not(self):
        for term in NAMED:
            with self.subTest(term=term):
                self.assertIs(is_named(term), True)

    def test_all_else(self):
        for term in NEVER + OTHERS:
            with self.subTest(term=term):
                self.assertIs(is_named(term), False)

    def test_keep_and_not_with_any_number_of_kids(self):
        for word in ("keep", "not"):
            for many in range(5):
                self.assertIs(is_named(t(word, *[A] * many)), False)

    def test_parts_are_not_looked_at(self):
        for many in (24, 25, 40, 41, 60):
            self.assertIs(is_named(nested(many)), True)


class IsGoal(unittest.TestCase):
    def test_each_kind(self):
        for term in NAMED + OTHERS:
            with self.subTest(term=term):
                self.assertIs(is_goal(term), True)

    def test_what_is_none(self):
        for term in NEVER:
            with self.subTest(term=term):
                self.assertIs(is_goal(term), False)

    def test_what_stands_within_a_named_goal_is_not_looked_at(self):
        for term in NEVER:
            self.assertIs(is_goal(t("p", term)), True)
            self.assertIs(is_goal(t("not", t("p", term))), True)
            self.assertIs(is_goal(t("=", term, term)), True)

    def test_parts_are_not_looked_at(self):
        for many in (24, 25, 40, 41, 60):
            self.assertIs(is_goal(nested(many)), True)
            self.assertIs(is_goal(t("not", nested(many))), True)
            self.assertIs(is_goal(t("=", nested(many), A)), True)


class Rule(unittest.TestCase):
    def assert_rule(self, head, goals):
        for handed in (list(goals), tuple(goals)):
            told = rule(head, handed)
            self.assertEqual(told, (head, tuple(goals)))
            self.assertIs(told.__class__, tuple)
            self.assertIs(told[1].__class__, tuple)

    def assert_no_rule(self, head, goals):
        with self.subTest(head=head, goals=goals):
            assert_refused(self, "NoRule", rule, head, list(goals))
            assert_refused(self, "NoRule", rule, head, tuple(goals))

    def test_heads(self):
        for head in NAMED:
            self.assert_rule(head, [])
            self.assert_rule(head, [A])
        for head in NEVER + OTHERS:
            self.assert_no_rule(head, [])
            self.assert_no_rule(head, [A])

    def test_goals(self):
        for goal in NAMED + OTHERS:
            self.assert_rule(P, [goal])
            self.assert_rule(P, [A, goal, B])
        for goal in NEVER:
            self.assert_no_rule(P, [goal])
            self.assert_no_rule(P, [A, goal])
            self.assert_no_rule(P, [goal, A])
            self.assert_no_rule(P, [A, A, A, A, A, goal])

    def test_how_many_goals(self):
        for many in range(7):
            self.assert_rule(P, ([A, KEEP, t("=", X, Y), t("not", P), P, B])[:many])
        for many in (7, 8, 20):
            self.assert_no_rule(P, [A] * many)

    def test_parts_of_heads(self):
        for many in (1, 2, 23, 24):
            self.assert_rule(nested(many), [])
        for many in (25, 26, 40, 41):
            self.assert_no_rule(nested(many), [])
            self.assert_no_rule(nested(many), [A])
        wide = t("p", listed(*[A] * 11))
        self.assertEqual(count_parts(wide), 24)
        self.assert_rule(wide, [])
        self.assert_no_rule(t("p", A, wide[2][0]), [])

    def test_parts_of_goals(self):
        for many, refused in ((24, False), (25, True), (40, True), (41, True)):
            for goal in (nested(many), t("not", nested(many - 1)), t("=", nested(many - 2), X),
                         t("=", X, nested(many - 2)),
                         t("<", nested(many - 4), listed(A))):
                self.assertEqual(count_parts(goal), many)
                for goals in ([goal], [A, goal], [A, A, A, A, A, goal]):
                    if refused:
                        self.assert_no_rule(P, goals)
                    else:
                        self.assert_rule(P, goals)

    def test_each_goal_has_its_own_bound(self):
        self.assert_rule(nested(24), [nested(24)] * 6)


class Question(unittest.TestCase):
    def assert_question(self, goals):
        told = question(goals)
        self.assertEqual(told, list(goals))
        self.assertIs(told.__class__, list)
        self.assertIsNot(told, goals)

    def test_none_to_six_goals(self):
        for many in range(7):
            self.assert_question(([P, KEEP, t("=", X, Y), t("not", P), t(":=", X, n(1)), B])[:many])
        for many in (7, 8, 20):
            assert_refused(self, "NoRule", question, [A] * many)

    def test_each_kind(self):
        for goal in NAMED + OTHERS:
            self.assert_question([goal])
            self.assert_question([A, goal])
        for goal in NEVER:
            for goals in ([goal], [A, goal], [goal, A]):
                with self.subTest(goals=goals):
                    assert_refused(self, "NoRule", question, goals)

    def test_parts(self):
        self.assert_question([nested(24)] * 6)
        self.assert_question([t("not", nested(23))])
        for goal in (nested(25), t("not", nested(24)), t("=", nested(12), nested(12)), nested(40)):
            assert_refused(self, "NoRule", question, [goal])
            assert_refused(self, "NoRule", question, [A, goal])


class Everywhere(unittest.TestCase):
    def test_what_is_handed_in_stays_and_what_is_given_is_the_askers_own(self):
        goals = [P, KEEP, t("=", X, Y)]
        before = copy.deepcopy(goals)
        told = rule(P, goals)
        asked = question(goals)
        self.assertEqual(goals, before)
        goals.append(A)
        goals[0] = B
        self.assertEqual(told, (P, tuple(before)))
        self.assertEqual(asked, before)
        asked.append(B)
        self.assertEqual(question(before), before)
        self.assertEqual(len(before), 3)

    def test_the_same_question_has_the_same_answer(self):
        for again in range(3):
            self.assertEqual(rule(P, [A]), (P, (A,)))
            self.assertEqual(question([A]), [A])


if __name__ == "__main__":
    unittest.main()
