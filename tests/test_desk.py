import unittest

from goaltrail.desk import Desk
from goaltrail.machine import run
from goaltrail.maker import code_of
from goaltrail.search import search
from goaltrail.signs import first_signs
from goaltrail.tables import fill
from goaltrail.why import why
from goaltrail.writer import shown
from tests.helper import FACTS, LISTS, Chance, assert_refused, program_text


def desk_of(*rows):
    return Desk("\n".join(rows))


class DeskCase(unittest.TestCase):
    def assert_texts(self, told, *texts):
        self.assertIs(told.__class__, list)
        self.assertEqual(told, list(texts))

    def assert_both(self, desk, text, *texts, limits=()):
        """Machine and searcher tell the same."""
        with self.subTest(text):
            self.assert_texts(desk.ask(text, *limits), *texts)
            self.assert_texts(desk.plainly(text, *limits), *texts)


class Asked(DeskCase):
    def test_answers(self):
        desk = desk_of(*FACTS, *LISTS)
        self.assert_both(desk, "p(X)", "X = a", "X = b", "X = c", "all")
        self.assert_both(desk, "p(X), q(X)", "X = b", "X = c", "all")
        self.assert_both(desk, "app(X, Y, [1])", "X = [], Y = [1]", "X = [1], Y = []", "all")
        self.assert_both(desk, "p(d)", "all")
        self.assert_both(desk, " in( X,[~1 ,Y ] ) ", "X = ~1, Y = U1", "X = U1, Y = U1", "all")

    def test_yes(self):
        desk = desk_of("p", "p", "q(X)")
        self.assert_both(desk, "p", "yes", "yes", "all")
        self.assert_both(desk, "p, q(a)", "yes", "yes", "all")
        self.assert_both(desk, "q(X)", "X = U1", "all")

    def test_ends(self):
        desk = desk_of("p <- p", "n(0)", "n(N) <- n(M), N := M + 1", "d(X, f(X, X))", "b(X) <- d(X, Y), b(Y)")
        self.assert_both(desk, "p", "spent")
        self.assert_both(desk, "n(X)", *[f"X = {k}" for k in range(10)], "enough")
        self.assert_both(desk, "b(a)", "big")
        self.assert_both(desk, "X := 1 + a", "fault kind U1 := 1 + a")
        self.assert_both(desk, "X = f(Y), Z < X", "fault open U1 < f(U2)")
        self.assert_both(desk, "n(X), not(n(Y))", "fault open not(n(U1))")
        self.assert_both(desk, "Y = 1, n(X), 2 < 4 / X", "fault nought 2 < 4 / 0")
        self.assert_both(desk, f"X := {'9' * 30} * 2", f"fault far U1 := {'9' * 30} * 2")

    def test_answers_ahead_of_a_fault(self):
        desk = desk_of("p(1)", "p(2)", "p(a)")
        self.assert_both(desk, "p(X), Y := X * 2", "X = 1, Y = 2", "X = 2, Y = 4", "fault kind U1 := a * 2")

    def test_bounds_and_wishes(self):
        desk = desk_of(*[f"p({k})" for k in range(30)])
        self.assert_both(desk, "p(X)", *[f"X = {k}" for k in range(10)], "enough")
        self.assert_both(desk, "p(X)", *[f"X = {k}" for k in range(10)], "enough", limits=(1,))
        self.assert_both(desk, "p(X)", "X = 0", "X = 1", "enough", limits=(200, 2))
        self.assert_both(desk, "p(X)", *[f"X = {k}" for k in range(30)], "all", limits=(1, 31))
        self.assert_both(desk, "p(X)", "spent", limits=(0,))
        deep = desk_of("c(N) <- 0 < N, M := N - 1, c(M)", "c(0)", "e <- c(66)")
        # Three goals for each number above nought, two for nought.
        self.assert_both(deep, "c(66)", "yes", "all")
        self.assert_both(deep, "e", "spent")
        self.assert_both(deep, "e", "yes", "all", limits=(201,))
        self.assertEqual(deep.why("c(66)")[0], "yes")
        self.assertEqual(deep.why("e"), ["spent"])
        self.assertEqual(deep.why("e", 201)[0], "yes")

    def test_shown_as_the_goal(self):
        desk = desk_of("infix & 16 right", "infix ?? 15 none", "infix ^ 3 left", "p(a & b)", "p(a ?? b)", "p(a = b)",
                       "p(c ^ d + 1)", "p(f(a & b, [a & c | d & e]))")
        self.assert_both(desk, "p(X)", "X = (a & b)", "X = (a ?? b)", "X = (a = b)", "X = c ^ d + 1",
                         "X = f(a & b, [a & c | d & e])", "all")

    def test_told_marks_in_faults(self):
        desk = desk_of("infix & 16 right", "p")
        self.assert_both(desk, "X := (1 & 2)", "fault kind U1 := (1 & 2)")

    def test_the_programs_marks_are_read(self):
        desk = desk_of("p(a)", "infix & 9 left", "infix <-- 5 none", "q(X & Y) <- p(X), p(Y)")
        self.assert_both(desk, "q(X&a)", "X = a", "all")
        self.assert_both(desk, "X = 1 <-- 2 & 3", "X = 1 <-- 2 & 3", "all")

    def test_keeps(self):
        desk = desk_of(*FACTS, "one(X) <- p(X), keep")
        self.assert_both(desk, "one(X)", "X = a", "all")
        self.assert_both(desk, "p(X), keep", "X = a", "all")


class Tabled(DeskCase):
    def test_answers_are_sorted_as_texts(self):
        desk = desk_of("p(b)", "p(a)", "p(10)", "p(9)", "p(~1)", "p([])", "p(f(Z, Y))", "p(X) <- X = 1 + 2")
        answers = ["p(b)", "p(a)", "p(10)", "p(9)", "p(~1)", "p([])", "p(f(U1, U2))", "p(1 + 2)"]
        self.assert_texts(desk.table("p(A)"), *sorted(answers), "done")
        self.assert_texts(desk.table("p(z)"), "done")
        self.assert_texts(desk.table(" p(10)  "), "p(10)", "done")
        self.assert_texts(desk.table("z"), "done")

    def test_rings(self):
        desk = desk_of("e(a, b)", "e(b, a)", "path(X, Y) <- path(X, Z), e(Z, Y)", "path(X, Y) <- e(X, Y)")
        self.assert_texts(desk.table("path(b, X)"), "path(b, a)", "path(b, b)", "done")
        self.assert_texts(desk.ask("path(b, X)"), "spent")

    def test_ends(self):
        desk = desk_of("n(0)", "n(N) <- n(M), N := M + 1", "p(X) <- X < 1", "q(a)", "q(X) <- not(p(X))")
        self.assert_texts(desk.table("n(X)"), "full")
        self.assert_texts(desk.table("p(X)"), "fault")
        self.assert_texts(desk.table("q(X)"), "fault")
        self.assert_texts(desk.table("p(0)"), "p(0)", "done")

    def test_told_marks(self):
        desk = desk_of("infix & 16 right", "p(a & b & c)", "p([a & b])")
        self.assert_texts(desk.table("p(X)"), "p([a & b])", "p(a & b & c)", "done")


class Whys(DeskCase):
    def test_yes(self):
        desk = desk_of("p(X) <- q(X), not(r(X))", "q(a)", "q(b)", "r(a)")
        told = desk.why("p(X)")
        self.assertEqual(told[:2], ["yes", "yes p(b) by 1 from 1 2"])
        self.assertEqual(sorted(told[2:]), ["no r(b); part", "yes not(r(b)) by 0 from 3", "yes q(b) by 3"])
        self.assert_texts(desk.why("q(X)"), "yes", "yes q(a) by 2")

    def test_no(self):
        desk = desk_of("p(X) <- q(X), r(X)", "p(X) <- not(q(a)), z", "q(a)", "s(X, X)", "t(X) <- X = b, 2 < 1",
                       "u <- not(z), z")
        self.assert_texts(desk.why("z(X, a)"), "no", "no z(U1, a)")
        self.assert_texts(desk.why("q(b)"), "no", "no q(b); part")
        self.assert_texts(desk.why("s(X, f(X))"), "no", "no s(U1, f(U1)); ring")
        self.assert_texts(desk.why("t(X)"), "no", "no t(U1); on 1", "no U1 = b, 2 < 1; on 2", "no 2 < 1; false")
        told = desk.why("p(X)")
        self.assertEqual(told[:2], ["no", "no p(U1); on 1; on 2"])
        self.assertEqual(len(told), 6)
        self.assertRegex(told[2], r"\Ano q\(U1\), r\(U1\); on [345]\Z")
        self.assertIn("yes q(a) by 3", told)
        self.assertIn("no r(a)", told)
        self.assertTrue(any(text.startswith("no not(q(a)), z; held ") for text in told))
        told = desk.why("u")
        self.assertEqual(told[:3], ["no", "no u; on 1", "no not(z), z; fell 2; on 3"])
        self.assertEqual(told[3:], ["no z", "no z"])

    def test_other_ends(self):
        desk = desk_of("p <- p", "q <- X := a", "d(X, f(X, X))", "b(X) <- d(X, Y), b(Y)", "n(0)",
                       "n(N) <- 0 < N, M := N - 1, n(M)")
        self.assert_texts(desk.why("p"), "spent")
        self.assert_texts(desk.why("q"), "fault")
        self.assert_texts(desk.why("b(a)"), "big")
        self.assert_texts(desk.why("n(5)", 3), "spent")
        self.assertEqual(desk.why("n(66)")[0], "yes")
        self.assertEqual(desk.why("n(67)"), ["spent"])
        self.assertEqual(desk.why("n(67)", 400)[0], "yes")

    def test_rules_without_layers(self):
        self.assert_texts(desk_of("p <- not(p)", "q").why("q"), "yes", "yes q by 2")

    def test_told_marks(self):
        desk = desk_of("infix & 16 right", "p(a & b) <- (a & b) = (a & b)", "q(X) <- p(X), p(X & X)")
        self.assert_texts(desk.why("p(X)"), "yes", "yes p(a & b) by 1 from 1", "yes (a & b) = (a & b) by 0")
        self.assertEqual(desk.why("q(c)")[:3], ["no", "no q(c); on 1", "no p(c), p(c & c); part"])


class Refused(DeskCase):
    def test_programs(self):
        for rows, name, row in ((("p", "q("), "NoText", 2), (("", "p <- 5"), "NoRule", 2),
                                (("infix & 3",), "NoSign", 1), (("p", "", "infix + 3 left", "q("), "NoSign", 3),
                                (("p", "not(p)"), "NoRule", 2), (("p",) * 41, "NoRule", 41)):
            assert_refused(self, name, desk_of, *rows, row=row)

    def test_questions(self):
        desk = desk_of("p(a)", "infix & 3 left")
        many = ", ".join(["p(X)"] * 7)
        for text, name in (("", "NoText"), ("  ", "NoText"), ("p(", "NoText"), ("p(X) <- p(X)", "NoText"),
                           ("p ^ q", "NoText"), ("p(X),", "NoText"), ("X", "NoRule"), ("5", "NoRule"),
                           ("p, 5", "NoRule"), ("a & b", "NoRule"), ("not(X)", "NoRule"), ("keep(a)", "NoRule"),
                           ("not(keep)", "NoRule"), (many, "NoRule"), (f"p({'f(' * 24}a{')' * 24})", "NoRule"),
                           ("5, p(", "NoText"), ("f" * 13, "NoText")):
            with self.subTest(text):
                for ask in (desk.ask, desk.plainly, desk.table, desk.why):
                    assert_refused(self, name, ask, text)

    def test_one_named_goal(self):
        desk = desk_of("p(a)", "q")
        for text in ("p(X), q", "q, q", "X = a", "keep", "not(q)", "1 < 2", "X := 1"):
            with self.subTest(text):
                for ask in (desk.table, desk.why):
                    assert_refused(self, "NoRule", ask, text)
                desk.ask(text)

    def test_keeps_and_layers_in_their_order(self):
        both = desk_of("p <- keep", "q <- not(q)")
        keeps, rings = desk_of("p <- keep"), desk_of("q <- not(q)")
        for desk, name in ((both, "HasKeep"), (keeps, "HasKeep"), (rings, "NotLayered")):
            assert_refused(self, "NoText", desk.table, "p(")
            assert_refused(self, "NoRule", desk.table, "5")
            assert_refused(self, "NoRule", desk.table, "q, q")
            assert_refused(self, name, desk.table, "q")
        for desk in (both, keeps):
            assert_refused(self, "NoText", desk.why, "p(")
            assert_refused(self, "NoRule", desk.why, "keep")
            assert_refused(self, "HasKeep", desk.why, "z")
        self.assertEqual(assert_refused(self, "NotLayered", rings.table, "z").ring, [("q", 0)])
        self.assertEqual(rings.why("z"), ["no", "no z"])


class BesideTheFunctions(DeskCase):
    def texts_of_run(self, told, signs):
        texts = []
        for answer, way in told[0]:
            pairs = [shown(("app", "=", (("any", name), term)), signs) for name, term in answer]
            texts.append(", ".join(pairs) if pairs else "yes")
        end = told[1]
        return texts + [f"{end[0]} {end[1]} {shown(end[2], signs)}" if end[0] == "fault" else end[0]]

    def texts_of_why(self, told, signs):
        texts = [told[0]]
        for row in told[1]:
            if row[0] == "yes":
                kids = "".join(f" {kid}" for kid in row[3])
                texts.append(f"yes {shown(row[1], signs)} by {row[2]}" + (" from" + kids if kids else ""))
            else:
                falls = "".join("; " + " ".join(map(str, fall)) for fall in row[2])
                texts.append("no " + ", ".join(shown(goal, signs) for goal in row[1]) + falls)
        return texts

    def test_some_programs(self):
        chance = Chance(111)
        signs = first_signs()
        for again in range(400):
            chance.keeps = again % 3 == 0
            rules, goals, goal = chance.rules(), chance.question(), chance.named()
            desk = Desk(program_text(rules, signs, []))
            asked = shown(goal, signs)
            if goals:
                text = ", ".join(shown(one, signs) for one in goals)
                self.assertEqual(desk.ask(text, 40, 5), self.texts_of_run(search(rules, goals, 40, 5), signs))
                self.assertEqual(desk.plainly(text, 40, 5), self.texts_of_run(run(code_of(rules), goals, 40, 5), signs))
            try:
                told = fill(rules, goal)
            except ValueError as error:
                assert_refused(self, error.__class__.__name__, desk.table, asked)
            else:
                answers = [shown(answer[0], signs) for answer in told[1][0][1]] if told[1] else []
                self.assertEqual(desk.table(asked), sorted(answers) + [told[0]])
            if not any(("app", "keep", ()) in told[1] for told in rules):
                self.assertEqual(desk.why(asked, 60), self.texts_of_why(why(rules, goal, 60), signs))


class Everywhere(DeskCase):
    def test_a_desk_asked_twice(self):
        desk = desk_of(*FACTS, *LISTS, "r(X) <- p(X), not(q(X))")
        asks = [lambda: desk.ask("p(X), q(Y)"), lambda: desk.plainly("p(X)"), lambda: desk.table("r(X)"),
                lambda: desk.why("r(X)"), lambda: desk.why("r(c)"), lambda: desk.ask("X := a")]
        first = [ask() for ask in asks]
        for ask, told in reversed(list(zip(asks, first))):
            self.assertEqual(ask(), told)
        assert_refused(self, "NoText", desk.ask, "(")
        self.assertEqual([ask() for ask in asks], first)

    def test_what_was_told_may_be_changed(self):
        desk = desk_of(*FACTS)
        for ask in (desk.ask, desk.plainly, desk.table, desk.why):
            told = ask("p(X)")
            kept = list(told)
            told.clear()
            self.assertEqual(ask("p(X)"), kept)

    def test_a_text_without_rules(self):
        for text in ("", "\n", "   \n\n ", "infix & 3 left"):
            desk = Desk(text)
            self.assert_both(desk, "p(X)", "all")
            self.assert_both(desk, "X = a", "X = a", "all")
            self.assertEqual(desk.table("p(X)"), ["done"])
            self.assertEqual(desk.why("p(X)"), ["no", "no p(U1)"])

    def test_the_same_rules_otherwise_written(self):
        one = Desk("p(a)\np(X) <- q(X),r(X)\nq(b)\ninfix & 3 left\nr(b)")
        other = Desk("infix   & 3  left\n\n p( a )\np((X))<-q(X) , r(X)\n\nq(b)\nr(b)\n")
        for text in ("p(X)", "p(b)", "r(X & Y)"):
            for ask, again in ((one.ask, other.ask), (one.plainly, other.plainly), (one.table, other.table),
                               (one.why, other.why)):
                self.assertEqual(ask(text), again(text))

    def test_desks_are_apart(self):
        one, other = desk_of("p(a)", "infix & 3 left"), desk_of("p(b)")
        self.assertEqual(one.ask("p(X)"), ["X = a", "all"])
        self.assertEqual(other.ask("p(X)"), ["X = b", "all"])
        assert_refused(self, "NoText", other.ask, "X = a & b")


if __name__ == "__main__":
    unittest.main()
