import copy
import unittest

from goaltrail.maker import code_of, question_code, rule_code
from goaltrail.switches import switch_of
from tests.helper import (
    A, FACTS, FAMILY, LISTS, X, Chance, goals_of, n, nested, rules_of, slowly_anew, t, v,
)

HEAD_KINDS = ("slot", "same", "num", "app")
PUT_KINDS = ("put", "putnum", "build")
MARK_SIGNS = {"equal": "=", "reckon": ":=", "less": "<", "atmost": "<="}


class WrongCode(Exception):
    """The code is not as it is told to be."""


def must(good, words):
    if not good:
        raise WrongCode(words)


class CodeReader:
    """Reads a rule back from its code, and looks whether each row may stand where it stands."""

    def __init__(self, code):
        self.number, self.slots, self.rows = code
        must(code.__class__ is tuple and self.rows.__class__ is list, "a tuple with a list of rows")
        must(all(row.__class__ is tuple for row in self.rows), "rows are tuples")
        must(self.slots.__class__ is int and self.number.__class__ is int, "whole numbers")
        self.at = 0
        self.met = []

    def kind(self):
        return self.rows[self.at][0] if self.at < len(self.rows) else None

    def taken(self):
        must(self.at < len(self.rows), "another row")
        self.at += 1
        return self.rows[self.at - 1]

    def slot(self, number):
        must(number.__class__ is int and 0 <= number < self.slots, "a slot's number")
        return v(f"S{number}")

    def head_kids(self, many):
        works, there = {}, set(range(many))
        while self.kind() in HEAD_KINDS:
            row = self.taken()
            must(row[1] in there, "a cell is there before a row works on it")
            must(row[1] not in works, "a cell is worked on once")
            works[row[1]] = row
            if row[0] in ("slot", "same"):
                must((row[0] == "same") == (row[2] in self.met), "the first row on a slot is its slot")
                self.met.append(row[2])
            if row[0] == "app":
                new = range(row[4], row[4] + row[3])
                must(not there.intersection(new), "new cells")
                must(all(0 <= cell < 200 for cell in new), "cells below 200")
                there.update(new)
        must(set(works) == there, "each cell is worked on")
        return [self.head_term(cell, works) for cell in range(many)]

    def head_term(self, cell, works):
        row = works[cell]
        if row[0] == "num":
            must(len(row) == 3, "the form of a row")
            return n(row[2])
        if row[0] == "app":
            must(len(row) == 5, "the form of a row")
            return t(row[2], *[self.head_term(row[4] + place, works) for place in range(row[3])])
        must(len(row) == 3, "the form of a row")
        return self.slot(row[2])

    def frame(self):
        must(self.taken() == ("frame",), "a frame")
        new = []
        while self.kind() == "new":
            row = self.taken()
            must(len(row) == 2, "the form of a row")
            self.slot(row[1])
            new.append(row[1])
        must(sorted(new + list(set(self.met))) == list(range(self.slots)), "new for what the head lacks")

    def goal(self):
        """The next goal, with the word of the row that does it."""
        cells = {}
        while self.kind() in PUT_KINDS:
            row = self.taken()
            must(0 <= row[1] < 200, "cells below 200")
            if row[0] == "build":
                must(len(row) == 5, "the form of a row")
                cells[row[1]] = t(row[2], *[cells[row[4] + place] for place in range(row[3])])
            else:
                must(len(row) == 3, "the form of a row")
                cells[row[1]] = self.slot(row[2]) if row[0] == "put" else n(row[2])
        row = self.taken()
        if row[0] in ("call", "jump", "not"):
            goal = t(row[1], *[cells[place] for place in range(row[2])])
            return row[0], t("not", goal) if row[0] == "not" else goal
        must(len(row) == 1, "the form of a row")
        if row[0] == "keep":
            return row[0], t("keep")
        return row[0], t(MARK_SIGNS[row[0]], cells[0], cells[1])

    def goals(self, last_row):
        goals = []
        while self.at < len(self.rows) and self.kind() != last_row:
            kind, goal = self.goal()
            goals.append(goal)
            if kind == "jump":
                must(last_row == "back" and self.at == len(self.rows), "a jump is a rule's last row")
                return goals
            must(not (kind == "call" and self.kind() == "back"), "a named goal that is the last one is a jump")
        must(self.rows[self.at:] == [(last_row,)], "the last row")
        return goals


def rule_back(code, word, many):
    """The rule of which the code was made, its unknowns called as the slots are numbered."""
    reader = CodeReader(code)
    head = t(word, *reader.head_kids(many))
    if reader.kind() == "back":
        must(reader.rows[reader.at:] == [("back",)], "the last row")
        must(set(reader.met) == set(range(reader.slots)), "no more slots than unknowns")
        return (head, ())
    reader.frame()
    goals = reader.goals("back")
    must(goals, "no frame without goals")
    return (head, tuple(goals))


def question_back(code):
    reader = CodeReader(code)
    must(reader.number == 0, "a question's number")
    reader.frame()
    return reader.goals("tell")


def by_slots(terms):
    """Terms with their unknowns called as slots are numbered: as they first stand, from 0."""
    def called(term):
        if term[0] == "any":
            return v(f"S{int(term[1][1:]) - 1}")
        return t(term[1], *map(called, term[2])) if term[0] == "app" else term
    return [called(term) for term in slowly_anew(terms)]


class MakerCase(unittest.TestCase):
    def assert_rule(self, told, number=1):
        with self.subTest(told):
            code = rule_code(number, told)
            self.assertEqual(code[0], number)
            terms = by_slots([told[0]] + list(told[1]))
            back = rule_back(code, told[0][1], len(told[0][2]))
            self.assertEqual(back, (terms[0], tuple(terms[1:])))

    def rows(self, text):
        return rule_code(1, rules_of(text)[0])[2]

    def question_rows(self, text):
        return question_code(goals_of(text))[2]


class Rules(MakerCase):
    def test_a_rule_without_kids_and_goals(self):
        self.assertEqual(rule_code(7, rules_of("s")[0]), (7, 0, [("back",)]))

    def test_each_kind_of_head_row(self):
        self.assertEqual(rule_code(1, rules_of("p(X)")[0]), (1, 1, [("slot", 0, 0), ("back",)]))
        self.assertEqual(rule_code(2, rules_of("p(X, Y)")[0]), (2, 2, [("slot", 0, 0), ("slot", 1, 1), ("back",)]))
        self.assertEqual(rule_code(3, rules_of("p(X, X)")[0])[:2], (3, 1))
        self.assertEqual(self.rows("p(X, X)"), [("slot", 0, 0), ("same", 1, 0), ("back",)])
        self.assertEqual(self.rows("p(5)"), [("num", 0, 5), ("back",)])
        self.assertEqual(self.rows("p(~5)"), [("num", 0, -5), ("back",)])
        row = self.rows("p(a)")[0]
        self.assertEqual(row[:4], ("app", 0, "a", 0))
        row = self.rows("p(f(X, 1))")
        self.assertEqual(row[0][:4], ("app", 0, "f", 2))
        first = row[0][4]
        self.assertEqual(row[1:], [("slot", first, 0), ("num", first + 1, 1), ("back",)])

    def test_cells_of_the_heads_kids(self):
        rows = self.rows("p(1, 2, 3, 4)")
        self.assertEqual(sorted(rows[:4]), [("num", 0, 1), ("num", 1, 2), ("num", 2, 3), ("num", 3, 4)])

    def test_each_kind_of_goal(self):
        self.assertEqual(self.rows("p <- q, r"), [("frame",), ("call", "q", 0), ("jump", "r", 0)])
        self.assertEqual(self.rows("p <- not(q)"), [("frame",), ("not", "q", 0), ("back",)])
        self.assertEqual(self.rows("p <- keep"), [("frame",), ("keep",), ("back",)])
        for mark, word in (("=", "equal"), (":=", "reckon"), ("<", "less"), ("<=", "atmost")):
            self.assertEqual(self.rows(f"p <- X {mark} 5"),
                             [("frame",), ("new", 0), ("put", 0, 0), ("putnum", 1, 5), (word,), ("back",)])
        self.assertEqual(self.rows("p(X) <- not(q(1, X))"),
                         [("slot", 0, 0), ("frame",), ("putnum", 0, 1), ("put", 1, 0), ("not", "q", 2), ("back",)])
        rows = self.rows("p <- q(f(1))")
        self.assertEqual([rows[0], rows[-1]], [("frame",), ("jump", "q", 1)])
        cell = rows[1][1]
        self.assertEqual(rows[1:-1], [("putnum", cell, 1), ("build", 0, "f", 1, cell)])

    def test_a_jump_only_for_a_named_goal_that_is_the_last_one(self):
        self.assertEqual(self.rows("p <- q"), [("frame",), ("jump", "q", 0)])
        self.assertEqual(self.rows("p <- q, q"), [("frame",), ("call", "q", 0), ("jump", "q", 0)])
        self.assertEqual(self.rows("p <- q, keep"), [("frame",), ("call", "q", 0), ("keep",), ("back",)])
        self.assertEqual(self.rows("p <- q, not(q)"), [("frame",), ("call", "q", 0), ("not", "q", 0), ("back",)])

    def test_slots_as_they_first_stand(self):
        code = rule_code(1, rules_of("p(f(X), Y) <- q(Z, Y), r(W, Z, X)")[0])
        self.assertEqual(code[1], 4)
        self.assertEqual([row for row in code[2] if row[0] in ("slot", "new")][2:], [("new", 2), ("new", 3)])
        self.assert_rule(rules_of("p(f(X), Y) <- q(Z, Y), r(W, Z, X)")[0])
        self.assert_rule(rules_of("p(f(f(Z, A), Y), A, f(Y, Z)) <- q(B, A), D = C, not(s(Z, E))")[0])

    def test_rules_by_hand(self):
        for text in LISTS + FAMILY + FACTS + (
            "p(f(g(a, X), [Y, 1 | X]), f(f(X))) <- X = Y", "p([]) <- q([]), r([a, b])", "p(a + b, 1 - X) <- keep",
            "p <- X := Y + 1 * 2, Y < 5, X <= Y, X = f(Y, Z), not(q(Z, a)), p", "p(X) <- keep, keep",
            "p(X) <- q, q(X), q(X, X), q(X, X, X), q(X, X, X, X)",
            "p <- q(f(f(f(a, b, c, d), b, c, d), b, c, d), g(1))",
        ):
            self.assert_rule(rules_of(text)[0])

    def test_deep_and_wide_terms(self):
        wide = t("p", *[t("f", *[t("g", n(k), n(place), X) for k in range(2)]) for place in range(4)])
        for term in (t("p", nested(23)), t("p", nested(39)), wide, t("p", X, t("f", X, X, X, X), X)):
            self.assert_rule((term, ()))
            self.assert_rule((t("s"), (term,) * 6))
            self.assert_rule((term, (t("not", term), term)))

    def test_goals_in_a_list(self):
        self.assertEqual(rule_code(1, (t("p"), [t("q")])), rule_code(1, (t("p"), (t("q"),))))
        self.assertEqual(rule_code(1, (t("p"), [])), rule_code(1, (t("p"), ())))

    def test_names_that_were_marked(self):
        self.assertEqual(rule_code(1, (t("p", v("X.3"), v("X")), (t("q", v("X.3")),)))[1:],
                         (2, [("slot", 0, 0), ("slot", 1, 1), ("frame",), ("put", 0, 0), ("jump", "q", 1)]))

    def test_some_rules(self):
        chance = Chance(52)
        for again in range(300):
            for place, told in enumerate(chance.rules()):
                self.assert_rule(told, place + 1)


class Questions(MakerCase):
    def test_no_goals(self):
        self.assertEqual(question_code([]), (0, 0, [("frame",), ("tell",)]))

    def test_by_hand(self):
        self.assertEqual(question_code(goals_of("p(X), q")),
                         (0, 1, [("frame",), ("new", 0), ("put", 0, 0), ("call", "p", 1), ("call", "q", 0),
                                 ("tell",)]))
        self.assertEqual(self.question_rows("keep"), [("frame",), ("keep",), ("tell",)])
        self.assertEqual(self.question_rows("not(p)"), [("frame",), ("not", "p", 0), ("tell",)])
        self.assertEqual(self.question_rows("X = Y"),
                         [("frame",), ("new", 0), ("new", 1), ("put", 0, 0), ("put", 1, 1), ("equal",), ("tell",)])

    def test_a_last_named_goal_is_no_jump(self):
        self.assertEqual(self.question_rows("p, q")[-2:], [("call", "q", 0), ("tell",)])

    def test_read_back(self):
        chance = Chance(53)
        for again in range(500):
            goals = chance.question()
            with self.subTest(goals):
                self.assertEqual(question_back(question_code(goals)), by_slots(goals))


class Programs(MakerCase):
    def assert_program(self, rules):
        code = code_of(rules)
        self.assertIs(code.__class__, dict)
        found = {}
        for place, told in enumerate(rules):
            found.setdefault((told[0][1], len(told[0][2])), []).append((place + 1, told))
        self.assertEqual(set(code), set(found))
        for key, numbered in found.items():
            self.assertIs(code[key].__class__, tuple)
            codes, switch = code[key]
            self.assertIs(codes.__class__, list)
            self.assertEqual(codes, [rule_code(number, told) for number, told in numbered])
            self.assertEqual(switch, switch_of([told[0] for number, told in numbered]))

    def test_no_rules(self):
        self.assertEqual(code_of([]), {})

    def test_by_hand(self):
        code = code_of(rules_of("p(a)", "q", "p(1)", "p(X) <- q", "p"))
        self.assertEqual(set(code), {("p", 1), ("q", 0), ("p", 0)})
        self.assertEqual([one[0] for one in code[("p", 1)][0]], [1, 3, 4])
        self.assertEqual(code[("p", 1)][1], ({("app", "a", 0): 5, ("num", 1): 6}, 4, 7))
        self.assertEqual(code[("q", 0)], ([(2, 0, [("back",)])], ({}, 1, 1)))
        self.assertEqual(code[("p", 0)], ([(5, 0, [("back",)])], ({}, 1, 1)))

    def test_words_that_stand_only_in_goals_are_no_keys(self):
        self.assertEqual(set(code_of(rules_of("p <- q, not(r), p(a)"))), {("p", 0)})

    def test_more_programs(self):
        self.assert_program(rules_of(*LISTS, *FAMILY, *FACTS))
        self.assert_program(rules_of("p", "p(1)", "p(1, 2)", "p(1, 2, 3)", "p(1, 2, 3, 4)", "p(2)", "p(f(X))", "p([])"))
        self.assert_program([(t("p", n(k)), (t("q"),)) for k in range(40)])
        chance = Chance(54)
        for again in range(200):
            self.assert_program(chance.rules())


class Everywhere(MakerCase):
    def test_what_is_handed_in_stays(self):
        rules = [(t("p", X, A), [t("q", X), t("not", t("q", A))]), (t("q", A), [])]
        goals = goals_of("p(X, Y), keep")
        before = copy.deepcopy((rules, goals))
        rule_code(1, rules[0])
        question_code(goals)
        code_of(rules)
        self.assertEqual((rules, goals), before)

    def test_what_is_given_is_the_askers_own(self):
        rules = rules_of(*FACTS, "r(X) <- p(X), q(X)")
        for make in (lambda: rule_code(1, rules[-1]), lambda: question_code(goals_of("p(X)"))):
            first, kept = make(), make()
            first[2].clear()
            self.assertEqual(make(), kept)
        first, kept = code_of(rules), code_of(rules)
        first[("p", 1)][0][0][2].clear()
        first[("p", 1)][0].pop()
        first[("p", 1)][1][0].clear()
        first.pop(("s", 0))
        self.assertEqual(code_of(rules), kept)
        self.assertNotEqual(first, kept)

    def test_what_is_handed_in_changed_later_changes_nothing_given(self):
        goals = [t("q", X), t("r", X)]
        rules = [(t("p", X), goals)]
        code, one, asked = code_of(rules), rule_code(1, rules[0]), question_code(goals)
        kept = copy.deepcopy((code, one, asked))
        goals.clear()
        rules.clear()
        self.assertEqual((code, one, asked), kept)


class TheReaderOfTheTests(unittest.TestCase):
    """What may not stand is seen by the reader that the tests above rely on."""

    def test_wrong_rows(self):
        for slots, rows in (
            (1, [("same", 0, 0), ("back",)]), (1, [("slot", 1, 0), ("back",)]), (1, [("slot", 0, 0)]),
            (2, [("slot", 0, 0), ("back",)]), (1, [("slot", 0, 0), ("frame",), ("back",)]),
            (1, [("app", 0, "f", 1, 0), ("slot", 0, 0), ("back",)]),
            (1, [("app", 0, "f", 1, 1), ("back",)]), (1, [("slot", 0, 0), ("frame",), ("call", "q", 0), ("back",)]),
            (1, [("slot", 0, 0), ("frame",), ("jump", "q", 0), ("back",)]),
            (1, [("slot", 0, 0), ("frame",), ("new", 0), ("jump", "q", 0)]),
            (2, [("slot", 0, 0), ("frame",), ("jump", "q", 0)]), (1, [("slot", 0, 0), ("jump", "q", 0)]),
            (0, [("app", 0, "f", 1, 200), ("num", 200, 1), ("back",)]),
        ):
            with self.subTest(rows), self.assertRaises(WrongCode):
                rule_back((1, slots, rows), "p", 1)
        with self.assertRaises(KeyError):
            rule_back((1, 0, [("num", 0, 1), ("frame",), ("call", "q", 0), ("jump", "q", 1)]), "p", 1)


if __name__ == "__main__":
    unittest.main()
