"""What is promised over the whole program, on programs made by chance of a fixed seed."""

import unittest

from goaltrail.errors import NotLayered
from goaltrail.looker import lets_by
from goaltrail.machine import run
from goaltrail.maker import code_of
from goaltrail.program import program_of
from goaltrail.search import search
from goaltrail.signs import first_signs, with_sign
from goaltrail.tables import fill
from goaltrail.why import why
from tests.helper import (
    FAMILY, LISTS, Chance, called, count_parts, goals_of, n, names_in, plainly_put, program_text, rules_of,
    slowly_anew, t, term_of,
)
from tests.test_looker import some_change
from tests.test_search import led_to


def read_by(goal, answer):
    """The goal as an answer has it, told anew."""
    puts = {name + "?": term for name, term in answer}
    return slowly_anew([plainly_put(called(goal, {name: name + "?" for name in names_in(goal)}), puts)])[0]


class WholeCase(unittest.TestCase):
    def assert_run(self, rules, goals, bound, most):
        """Machine beside searcher; each way leads to its answer and is greater than the one ahead of it."""
        told = search(rules, goals, bound, most)
        self.assertEqual(run(code_of(rules), goals, bound, most)[:3], told)
        ways = [way for answer, way in told[0]]
        self.assertTrue(all(one < other for one, other in zip(ways, ways[1:])))
        for answer, way in told[0]:
            self.assertEqual(led_to(rules, goals, way), answer)
        self.assertTrue((told[1] == ("enough",)) == (len(told[0]) == most))
        self.assertLessEqual(told[2], bound)
        return told

    def assert_tables(self, rules, goal, told):
        try:
            end, tables = fill(rules, goal)
        except NotLayered:
            return None
        if told[1][0] == "fault":
            self.assertNotEqual(end, "done")
        if end != "done":
            return end
        answers = [answer[0] for answer in tables[0][1]]
        found = [read_by(goal, answer) for answer, way in told[0]]
        self.assertEqual(len(answers), len(set(answers)))
        self.assertLessEqual(set(found), set(answers))
        if told[1] == ("all",):
            self.assertEqual(set(found), set(answers))
        return end

    def assert_why(self, rules, goal, told, bound):
        word, rows = why(rules, goal, bound)
        if told[0]:
            self.assertIn(word, ("yes", "big"))
        elif told[1] == ("all",):
            self.assertIn(word, ("no", "big"))
        else:
            self.assertEqual((word, rows), (told[1][0], []))
        if word == "yes":
            self.assertEqual(rows[0][1], read_by(goal, told[0][0][0]))
            # Each row of the answer's way stands there, with its number.
            self.assertEqual(sorted(told[0][0][1]), sorted(self.numbers_of(rows, 0)))
        if word == "no":
            self.assertEqual(slowly_anew(rows[0][1]), slowly_anew([goal]))
        if rows:
            self.assertIs(lets_by(rules, rows), True)
        return word

    def numbers_of(self, rows, place):
        """The numbers of the yes rows that a yes row leans on, its own too."""
        if rows[place][0] == "no":
            return []
        return [rows[place][2]] + [number for kid in rows[place][3] for number in self.numbers_of(rows, kid)]


class ByChance(WholeCase):
    def test_searcher_machine_tables_and_reasons(self):
        chance = Chance(121, keeps=False)
        ends, words = {}, {}
        for again in range(1500):
            rules, goal = chance.rules(), chance.named()
            bound = chance.pick(10, 40, 100)
            told = self.assert_run(rules, [goal], bound, chance.pick(1, 10, 40))
            end = self.assert_tables(rules, goal, told)
            word = self.assert_why(rules, goal, search(rules, [goal], bound, 1), bound)
            ends[end] = ends.get(end, 0) + 1
            words[word] = words.get(word, 0) + 1
        self.assertGreater(min(ends.values()), 20, ends)
        self.assertEqual(len(ends), 4)
        self.assertGreater(min(words.values()), 20, words)
        self.assertEqual(len(words), 5)

    def test_questions_with_keeps(self):
        chance = Chance(122)
        for again in range(1500):
            self.assert_run(chance.rules(), chance.question(), chance.pick(0, 5, 20, 60), chance.pick(1, 3, 10))

    def test_whatever_rows_are_let_by_their_first_row_is_so(self):
        chance, seen = Chance(123, keeps=False), {"yes": 0, "no": 0}
        for again in range(1500):
            rules, goal = chance.rules(), chance.named()
            rows = why(rules, goal, 40)[1]
            for more in range(4 if rows else 0):
                rows = some_change(chance, rows) or rows
                if lets_by(rules, rows):
                    kind, told = rows[0][0], rows[0][1]
                    seen[kind] += 1
                    answers, end, count = search(rules, [told] if kind == "yes" else told, 200, 1)
                    self.assertFalse(answers if kind == "no" else end == ("all",) and not answers, (rules, rows))
        self.assertGreater(min(seen.values()), 60, seen)


class ByHand(WholeCase):
    RULES = rules_of(*LISTS, *FAMILY, "rev([], [])", "rev([H | T], R) <- rev(T, S), app(S, [H], R)",
                     "leaf(X) <- child(Y, X), not(has(X))", "has(X) <- child(X, Y)",
                     "add(X, Y, Z) <- Z := X + Y", "small(X) <- in(X, [1, 2, 3]), X < 3",
                     "pairs(X, Y) <- small(X), small(Y), not(more(X, Y))", "more(X, Y) <- Y < X")

    def test_programs_by_hand(self):
        for text in ("rev([1, 2, 3], X)", "rev([1, 2], [1, 2])", "leaf(X)", "leaf(ann)", "below(X, fay)",
                     "add(1, X, Y)",
                     "add(1, 2, 4)", "small(X)", "pairs(X, Y)", "pairs(2, 1)", "app(X, Y, [a, b])", "in(X, Y)",
                     "grand(X, dan)", "z(X)"):
            goal = term_of(text)
            for bound in (3, 30, 200):
                with self.subTest(text, bound=bound):
                    told = self.assert_run(self.RULES, [goal], bound, 40)
                    self.assert_tables(self.RULES, goal, told)
                    self.assert_why(self.RULES, goal, search(self.RULES, [goal], bound, 1), bound)


class ShownAndReadAgain(unittest.TestCase):
    def marked_rules(self, chance, marks):
        """Rules with the marks within their terms."""
        def dressed(term):
            if term[0] != "app" or chance.under(3):
                return term
            return t(chance.pick(*marks), term, chance.pick(n(~chance.under(5)), t("[|]", term, t("[]")), term))

        def kids_dressed(goal):
            return t(goal[1], *map(kids_dressed if goal[1] == "not" else dressed, goal[2]))
        rules = [(kids_dressed(head), tuple(map(kids_dressed, goals))) for head, goals in chance.rules()]
        return [told for told in rules if max(map(count_parts, (told[0], *told[1]))) <= 24]

    def test_programs(self):
        signs = first_signs()
        marks = (("&", 16, "right"), ("?", 15, "none"), ("^", 3, "left"), ("<--", 20, "left"), ("@@@", 9, "none"))
        for mark, rank, side in marks:
            signs = with_sign(signs, mark, rank, side)
        told = [mark for mark, rank, side in marks]
        chance = Chance(124)
        for again in range(600):
            rules = self.marked_rules(chance, told + ["=", "+", "-", "/:", "<="])
            text = program_text(rules, signs, told)
            self.assertEqual(program_of(text), (signs, rules))
        for rules in (rules_of(*LISTS, *FAMILY), [], ByHand.RULES):
            self.assertEqual(program_of(program_text(rules, first_signs(), [])), (first_signs(), rules))

    def test_goals(self):
        self.assertEqual(program_of("p <- X = (a = b), (a) = a")[1], rules_of("p <- X = (a = b), a = a"))
        self.assertEqual(goals_of("p,q"), goals_of("p , q"))


if __name__ == "__main__":
    unittest.main()
