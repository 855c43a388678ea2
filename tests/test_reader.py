import copy
import itertools
import random
import unittest

from goaltrail.reader import read, read_goals, read_rule
from goaltrail.signs import first_signs, with_sign
from tests.helper import A, B, C, NIL, X, assert_refused, cons, listed, n, t, v

D = t("d")
# More than the nine: marks of each side, alone at their rank, and beside one of the nine.
MORE = {
    "^": (6, "right"), "^^": (6, "right"), "!": (4, "none"), "?": (4, "none"), "@": (10, "left"), "->": (17, "right"),
    ";": (20, "left"), "#": (1, "right"), "==": (15, "none"), "<--": (18, "none"), "-<-": (2, "left"),
}


def more_signs():
    table = first_signs()
    for mark, (rank, side) in MORE.items():
        table = with_sign(table, mark, rank, side)
    return table


class Ways:
    """All the ways in which pieces can be read as a term, word by word as the promise tells it."""

    def __init__(self, row, signs):
        self.row = row
        self.signs = signs
        self.known = {}

    def terms(self, start, end):
        """The pairs (term, rank) as which the pieces from start to end can be read."""
        if (start, end) not in self.known:
            self.known[start, end] = self.looked_for(start, end)
        return self.known[start, end]

    def looked_for(self, start, end):
        row = self.row[start:end]
        found = set()
        if len(row) == 1 and row[0].isalnum():
            found.add((self.single(row[0]), 0))
        if row == ["[", "]"]:
            found.add((NIL, 0))
        if len(row) > 2 and row[0] == "(" and row[-1] == ")":
            found.update((term, 0) for term, rank in self.terms(start + 1, end - 1))
        if len(row) > 3 and row[0][0].islower() and row[1] == "(" and row[-1] == ")":
            found.update((t(row[0], *kids), 0) for kids in self.rows(start + 2, end - 1) if len(kids) < 5)
        if len(row) > 2 and row[0] == "[" and row[-1] == "]":
            found.update((listed(*things), 0) for things in self.rows(start + 1, end - 1))
            for bar in range(start + 1, end - 1):
                if self.row[bar] == "|":
                    for things in self.rows(start + 1, bar):
                        found.update((cons(*things, rest), 0) for rest, rank in self.terms(bar + 1, end - 1))
        for place in range(start + 1, end - 1):
            if self.row[place] in self.signs:
                found.update(self.beside(start, place, end))
        return found

    def single(self, piece):
        if piece[0].isdigit():
            return n(int(piece))
        return v(piece) if piece[0].isupper() else t(piece)

    def beside(self, start, place, end):
        rank, side = self.signs[self.row[place]]
        for left, left_rank in self.terms(start, place):
            for right, right_rank in self.terms(place + 1, end):
                left_good = left_rank < rank or (left_rank == rank and side == "left")
                right_good = right_rank < rank or (right_rank == rank and side == "right")
                if left_good and right_good:
                    yield (t(self.row[place], left, right), rank)

    def rows(self, start, end):
        """The tuples of terms as which the pieces can be read, parted by commas."""
        found = {(term,) for term, rank in self.terms(start, end)}
        for place in range(start + 1, end - 1):
            if self.row[place] == ",":
                for first, rank in self.terms(start, place):
                    found.update((first,) + others for others in self.rows(place + 1, end))
        return found


class ReaderCase(unittest.TestCase):
    def assert_reads(self, text, term, signs=None):
        with self.subTest(text):
            self.assertEqual(read(text, first_signs() if signs is None else signs), term)

    def assert_no_text(self, text, signs=None):
        with self.subTest(text):
            assert_refused(self, "NoText", read, text, first_signs() if signs is None else signs)


class Single(ReaderCase):
    def test_numbers(self):
        self.assert_reads("0", n(0))
        self.assert_reads("5", n(5))
        self.assert_reads("~5", n(-5))
        self.assert_reads("120", n(120))
        self.assert_reads("~120", n(-120))
        self.assert_reads("9" * 30, n(10 ** 30 - 1))
        self.assert_reads("~" + "9" * 30, n(1 - 10 ** 30))

    def test_numbers_that_are_none(self):
        for text in ("05", "~0", "~", "1" * 31, "~" + "1" * 31, "1a", "- 5", "-5", "+5"):
            self.assert_no_text(text)

    def test_names_and_words(self):
        self.assert_reads("X", X)
        self.assert_reads("Xs1", v("Xs1"))
        self.assert_reads("a", A)
        self.assert_reads("aX1", t("aX1"))
        self.assert_reads("   a   ", A)

    def test_at_most_twelve_signs(self):
        self.assert_reads("abcdefghijkl", t("abcdefghijkl"))
        self.assert_reads("Abcdefghijkl", v("Abcdefghijkl"))
        self.assert_reads("abcdefghijk1(a)", t("abcdefghijk1", A))
        for text in ("abcdefghijklm", "Abcdefghijklm", "abcdefghijklm(a)", "f(abcdefghijklm)", "f(Abcdefghijklm)",
                     "[abcdefghijklm]", "[a | Abcdefghijklm]", "a + abcdefghijklm", "(Abcdefghijklm)", "a" * 50):
            self.assert_no_text(text)

    def test_words_with_kids(self):
        self.assert_reads("f(a)", t("f", A))
        self.assert_reads("f(a, X)", t("f", A, X))
        self.assert_reads("f(a, X, 1)", t("f", A, X, n(1)))
        self.assert_reads("f(a, X, 1, [])", t("f", A, X, n(1), NIL))
        self.assert_reads("f(g(h(a)), g(b))", t("f", t("g", t("h", A)), t("g", B)))
        self.assert_reads("f( a ,X )", t("f", A, X))
        self.assert_reads("f (a)", t("f", A))
        self.assert_reads("f(f, f(f))", t("f", t("f"), t("f", t("f"))))
        self.assert_reads("not(keep)", t("not", t("keep")))

    def test_kids_that_are_none(self):
        for text in ("f()", "f( )", "f(a,)", "f(,a)", "f(,)", "f(a,,b)", "f(a b)", "f(a | b)", "f(|)", "f(a",
                     "f(a,", "f(", "f)", "f(a]", "f(a))", "f(a, b, c, d, e)", "f(g(a, b, c, d, e))", "f(a,b,c,d,e,f)",
                     "X(a)", "1(a)", "[](a)", "[a](b)", "(f)(a)", "f(a)(b)", "+(a, b)", "~5(a)"):
            self.assert_no_text(text)

    def test_lists(self):
        self.assert_reads("[]", NIL)
        self.assert_reads("[ ]", NIL)
        self.assert_reads("[a]", listed(A))
        self.assert_reads("[a, b]", listed(A, B))
        self.assert_reads("[a,b,c]", listed(A, B, C))
        self.assert_reads("[a | T]", cons(A, v("T")))
        self.assert_reads("[a, b | T]", cons(A, B, v("T")))
        self.assert_reads("[a|[]]", listed(A))
        self.assert_reads("[a | [b]]", listed(A, B))
        self.assert_reads("[a | [b | T]]", cons(A, B, v("T")))
        self.assert_reads("[a | 5]", cons(A, n(5)))
        self.assert_reads("[[], [a], [[b]]]", listed(NIL, listed(A), listed(listed(B))))
        self.assert_reads("[a, b, c, d, e, f]", listed(A, B, C, D, t("e"), t("f")))
        self.assert_reads("f([], [a])", t("f", NIL, listed(A)))

    def test_lists_that_are_none(self):
        for text in ("[", "]", "[a", "a]", "[a |]", "[| a]", "[|]", "[a | b, c]", "[a,]", "[,a]", "[,]", "[a b]",
                     "[a || b]", "[a | b | c]", "[a | b |]", "[a, | b]", "[a | , b]", "[a)", "[a | b)", "[a]]", "[[a]",
                     "[] []", "[a][b]", "a | b", "(a | b)", "[a <- b]", "f([)]", "[(])"):
            self.assert_no_text(text)

    def test_round_brackets(self):
        self.assert_reads("(a)", A)
        self.assert_reads("((X))", X)
        self.assert_reads("(((~5)))", n(-5))
        self.assert_reads("([])", NIL)
        self.assert_reads("([a, (b)])", listed(A, B))
        self.assert_reads("f((a))", t("f", A))
        self.assert_reads("f((a), (b))", t("f", A, B))

    def test_round_brackets_that_are_none(self):
        for text in ("()", "( )", "(", ")", "(a", "a)", "((a)", "(a))", "(a, b)", "f((a, b))", "a ()", "(a)(b)", "(a]",
                     "(a) b", ")a("):
            self.assert_no_text(text)

    def test_no_term_at_all(self):
        for text in ("", " ", "     ", ",", "|", "<-", "+", "=", "a,", ",a", "a, b", "a b", "a X", "X X", "1 2", "a 1",
                     "a~5", "5~5", "a []", "a [b]", "_", "a\tb", "a\n", "'a'", "{a}", "a.", "f(_)"):
            self.assert_no_text(text)


class Marks(ReaderCase):
    def test_each_of_the_nine(self):
        for mark in first_signs():
            self.assert_reads(f"a {mark} b", t(mark, A, B))
            self.assert_reads(f"a{mark}b", t(mark, A, B))

    def test_side_left(self):
        self.assert_reads("a - b - c", t("-", t("-", A, B), C))
        self.assert_reads("a - b + c", t("+", t("-", A, B), C))
        self.assert_reads("a + b - c", t("-", t("+", A, B), C))
        self.assert_reads("a / b * c", t("*", t("/", A, B), C))
        self.assert_reads("a /: b / c", t("/", t("/:", A, B), C))
        self.assert_reads("a - b - c - d", t("-", t("-", t("-", A, B), C), D))
        self.assert_reads("a - (b - c)", t("-", A, t("-", B, C)))
        self.assert_reads("(a - b) - c", t("-", t("-", A, B), C))
        self.assert_reads("a - (b - c) - d", t("-", t("-", A, t("-", B, C)), D))

    def test_side_right(self):
        signs = more_signs()
        self.assert_reads("a ^ b ^ c", t("^", A, t("^", B, C)), signs)
        self.assert_reads("a ^ b ^^ c", t("^", A, t("^^", B, C)), signs)
        self.assert_reads("a ^^ b ^ c", t("^^", A, t("^", B, C)), signs)
        self.assert_reads("a ^ b ^ c ^ d", t("^", A, t("^", B, t("^", C, D))), signs)
        self.assert_reads("(a ^ b) ^ c", t("^", t("^", A, B), C), signs)
        self.assert_reads("a ^ (b ^ c)", t("^", A, t("^", B, C)), signs)
        self.assert_reads("a -> b -> c", t("->", A, t("->", B, C)), signs)

    def test_side_none(self):
        signs = more_signs()
        for one in ("=", ":=", "<", "<=", "=="):
            for two in ("=", ":=", "<", "<=", "=="):
                self.assert_no_text(f"a {one} b {two} c", signs)
                self.assert_no_text(f"a {one} b + c {two} d", signs)
                self.assert_reads(f"(a {one} b) {two} c", t(two, t(one, A, B), C), signs)
                self.assert_reads(f"a {one} (b {two} c)", t(one, A, t(two, B, C)), signs)
        self.assert_no_text("a = b = c")
        self.assert_no_text("a = b < c = d")
        self.assert_no_text("a ! b ? c", signs)
        self.assert_no_text("a + b ! c ! d", signs)
        self.assert_no_text("a ! b ! c + d", signs)
        self.assert_reads("a ! b + c ? d", t("+", t("!", A, B), t("?", C, D)), signs)
        self.assert_reads("a = b -> c = d", t("->", t("=", A, B), t("=", C, D)), signs)

    def test_ranks(self):
        signs = more_signs()
        self.assert_reads("a + b * c", t("+", A, t("*", B, C)))
        self.assert_reads("a * b + c", t("+", t("*", A, B), C))
        self.assert_reads("(a + b) * c", t("*", t("+", A, B), C))
        self.assert_reads("a * (b + c)", t("*", A, t("+", B, C)))
        self.assert_reads("a * b + c * d", t("+", t("*", A, B), t("*", C, D)))
        self.assert_reads("a = b + c", t("=", A, t("+", B, C)))
        self.assert_reads("a + b = c", t("=", t("+", A, B), C))
        self.assert_reads("a + b - c * d", t("-", t("+", A, B), t("*", C, D)))
        self.assert_reads("a + b * c - d", t("-", t("+", A, t("*", B, C)), D))
        self.assert_reads("X := X * 2 + 1 / Y", t(":=", X, t("+", t("*", X, n(2)), t("/", n(1), v("Y")))))
        self.assert_reads("a ^ b * c ^ d", t("*", t("^", A, B), t("^", C, D)), signs)
        self.assert_reads("a -> b ; c -> d", t(";", t("->", A, B), t("->", C, D)), signs)
        self.assert_reads("a ; b -> c ; d", t(";", t(";", A, t("->", B, C)), D), signs)
        self.assert_reads("a # b + c # d # a", t("+", t("#", A, B), t("#", C, t("#", D, A))), signs)
        self.assert_reads("a <-- b -> c", t("<--", A, t("->", B, C)), signs)
        self.assert_reads("a -<- b -<- c", t("-<-", t("-<-", A, B), C), signs)
        self.assert_reads("a @ b + c @ d", t("@", t("+", t("@", A, B), C), D), signs)

    def test_the_table_tells_the_ranks(self):
        for rank, side, term in (
            (9, "left", t("+", t("@", A, t("*", B, C)), D)), (11, "none", t("@", A, t("+", t("*", B, C), D))),
            (7, "right", t("+", t("*", t("@", A, B), C), D)),
        ):
            self.assert_reads("a @ b * c + d", term, with_sign(first_signs(), "@", rank, side))

    def test_any_rank_within_kids_lists_rests_and_brackets(self):
        signs = more_signs()
        for mark, (rank, side) in signs.items():
            term = t(mark, A, B)
            text = f"a {mark} b"
            self.assert_reads(f"f({text})", t("f", term), signs)
            self.assert_reads(f"f({text}, {text})", t("f", term, term), signs)
            self.assert_reads(f"[{text}]", listed(term), signs)
            self.assert_reads(f"[{text}, {text} | {text}]", cons(term, term, term), signs)
            self.assert_reads(f"({text})", term, signs)
            self.assert_reads(f"({text}) # c", t("#", term, C), signs)
            self.assert_reads(f"c # ({text})", t("#", C, term), signs)
            self.assert_reads(f"f({text}) # [{text}]", t("#", t("f", term), listed(term)), signs)

    def test_marks_glue_to_one_another(self):
        self.assert_no_text("1+-2")
        self.assert_reads("1+~2", t("+", n(1), n(-2)))
        self.assert_no_text("a<-b")
        self.assert_reads("a< ~1", t("<", A, n(-1)))
        self.assert_reads("1+-2", t("+-", n(1), n(2)), with_sign(first_signs(), "+-", 10, "left"))

    def test_a_mark_that_the_table_lacks(self):
        for mark in ("#", "->", "==", "<--", "-<-", "++", "++++", "=<", "%"):
            self.assert_no_text(f"a {mark} b")
        self.assert_no_text("a ++++ b", more_signs())
        self.assert_no_text("a # b", with_sign(first_signs(), "##", 3, "left"))

    def test_a_mark_without_its_sides(self):
        for text in ("+", "+ a", "a +", "a + + b", "(+)", "f(+)", "[+]", "f(a +)", "f(+ a)", "[a | + b]", "[a + | b]",
                     "a + (b", "= = =", "a + , b", "a = = b", "a * + b"):
            self.assert_no_text(text)

    def test_the_arrow_is_in_no_term(self):
        for text in ("a <- b", "<- a", "a <-", "(a <- b)", "f(a <- b)", "[a | b <- c]", "a + <- b", "<-"):
            self.assert_no_text(text)
            self.assert_no_text(text, more_signs())


class Bounds(ReaderCase):
    def test_forty_parts_are_read_and_forty_one_are_not(self):
        deep = A
        for depth in range(39):
            deep = t("f", deep)
        self.assert_reads("f(" * 39 + "a" + ")" * 39, deep)
        self.assert_no_text("f(" * 40 + "a" + ")" * 40)
        wide = t("h", *[t("f", A, A, A, A)] * 4)
        self.assert_reads("h(f(a,a,a,a),f(a,a,a,a),f(a,a,a,a),f(a,a,a,a))", wide)
        # A list of k things has 2 k + 1 parts, k things and a rest likewise.
        self.assert_reads("[" + ", ".join(["a"] * 19) + "]", listed(*[A] * 19))
        self.assert_reads("f([" + ", ".join(["a"] * 19) + "])", t("f", listed(*[A] * 19)))
        self.assert_no_text("[" + ", ".join(["a"] * 20) + "]")
        self.assert_no_text("[" + ", ".join(["a"] * 20) + " | X]")
        self.assert_no_text("f(f([" + ", ".join(["a"] * 19) + "]))")
        # A row of k marks has 2 k + 1 parts.
        self.assert_no_text(" + ".join(["a"] * 21))
        self.assert_no_text("[" + " + ".join(["a"] * 20) + "]")
        self.assert_reads("f(" + " + ".join(["a"] * 20) + ")", t("f", self.row_of("+", 20, "left")))
        self.assert_reads(" + ".join(["a"] * 20), self.row_of("+", 20, "left"))
        self.assert_reads(" ^ ".join(["a"] * 20), self.row_of("^", 20, "right"), more_signs())
        self.assert_no_text(" ^ ".join(["a"] * 21), more_signs())

    def row_of(self, mark, many, side):
        term = A
        for again in range(many - 1):
            term = t(mark, term, A) if side == "left" else t(mark, A, term)
        return term

    def test_brackets_are_no_parts(self):
        self.assert_reads("(" * 60 + "a" + ")" * 60, A)
        self.assert_no_text("(" * 60 + "a" + ")" * 59)
        self.assert_no_text("(" * 59 + "a" + ")" * 60)

    def test_brackets_of_all_sorts_sixty_deep(self):
        term = A
        text = "a"
        for depth in range(15):
            term = t("f", listed(term)) if depth < 12 else term
            text = f"(f(([{text}])))" if depth < 12 else f"({text})"
        self.assert_reads(text, term)
        self.assertEqual(read("[" * 19 + "]" * 19, first_signs()), self.nested(19))
        self.assert_no_text("[" * 60 + "]" * 60)
        self.assert_no_text("(a + " * 60 + "a" + ")" * 60)

    def nested(self, deep):
        term = NIL
        for again in range(deep - 1):
            term = listed(term)
        return term

    def test_two_hundred_pieces(self):
        brackets = "(" * 45
        closers = ")" * 45
        self.assert_reads(f"{brackets}a{closers} + {brackets}b{closers}", t("+", A, B))
        self.assert_no_text(" + ".join(["a"] * 100))
        self.assert_no_text(" ^ ".join(["a"] * 100), more_signs())
        self.assert_no_text("[" + ", ".join(["a"] * 99) + "]")
        self.assert_no_text("[a | " * 45 + "[]" + "]" * 45)


class AgainstTheWays(unittest.TestCase):
    """The reader beside a looker for all ways."""

    SIGNS = {"=": (15, "none"), "<": (15, "none"), "+": (10, "left"), "-": (10, "left"), "*": (8, "left"),
             "^": (6, "right"), ":=": (15, "none"), "<=": (15, "none"), "/": (8, "left"), "/:": (8, "left"),
             "&": (6, "right"), "!": (3, "none")}

    def look(self, row):
        text = " ".join(row)
        ways = Ways(list(row), self.SIGNS)
        found = ways.terms(0, len(row))
        self.assertLessEqual(len(found), 1, text)
        if found:
            self.assertEqual(read(text, self.SIGNS), list(found)[0][0], text)
        else:
            assert_refused(self, "NoText", read, text, self.SIGNS)
        goals = ways.rows(0, len(row))
        if goals:
            self.assertEqual([tuple(read_goals(text, self.SIGNS))], list(goals), text)
        else:
            assert_refused(self, "NoText", read_goals, text, self.SIGNS)

    def test_all_short_rows(self):
        for many in range(1, 6):
            for row in itertools.product(("a", "X", "1", "(", ")", "[", "]", ",", "|", "+", "="), repeat=many):
                self.look(row)

    def test_all_rows_of_marks(self):
        for many in range(1, 5):
            for marks in itertools.product(("=", "+", "-", "*", "^", "!"), repeat=many):
                row = ["a"]
                for mark in marks:
                    row += [mark, "a"]
                self.look(row)

    def test_long_rows_and_rows_with_one_piece_wrong(self):
        source = random.Random(4)
        for again in range(1500):
            row = self.some_row(source, 4)
            # No term has more parts than pieces, so none of these has too many.
            if len(row) > 35:
                continue
            self.look(row)
            place = source.randrange(len(row))
            piece = source.choice("( ) [ ] , | + = ^ ! a X 1 f".split())
            self.look(row[:place] + [piece] + row[place + 1:])
            self.look(row[:place] + row[place + 1:] or ["a"])
            self.look(row[:place] + [piece] + row[place:])

    def some_row(self, source, depth):
        pick = source.randrange(9) if depth else source.randrange(3)
        if pick < 3:
            return [("a", "X", "7")[pick]]
        inner = [self.some_row(source, depth - 1) for again in range(source.randrange(1, 4))]
        commas = inner[0] + [piece for row in inner[1:] for piece in [","] + row]
        if pick == 3:
            return ["f", "("] + commas + [")"]
        if pick == 4:
            return ["["] + commas + ["]"]
        if pick == 5:
            return ["["] + commas + ["|"] + inner[-1] + ["]"]
        if pick == 6:
            return ["("] + inner[0] + [")"]
        return inner[0] + [source.choice(["=", "+", "*", "^", "&", "!"])] + inner[-1]


class Rules(unittest.TestCase):
    def rule(self, text, signs=None):
        return read_rule(text, first_signs() if signs is None else signs)

    def test_a_term_alone(self):
        self.assertEqual(self.rule("a"), (A, []))
        self.assertEqual(self.rule("f(X, [a | T])"), (t("f", X, cons(A, v("T"))), []))
        self.assertEqual(self.rule(" 5 "), (n(5), []))
        self.assertEqual(self.rule("a + b"), (t("+", A, B), []))

    def test_with_goals(self):
        self.assertEqual(self.rule("a <- b"), (A, [B]))
        self.assertEqual(self.rule("a<-b,c"), (A, [B, C]))
        self.assertEqual(self.rule("f(X) <- g(X, Y), not(h(Y)), keep, Y := X + 1"), (
            t("f", X),
            [t("g", X, v("Y")), t("not", t("h", v("Y"))), t("keep"), t(":=", v("Y"), t("+", X, n(1)))]))
        self.assertEqual(self.rule("a = b <- a = b"), (t("=", A, B), [t("=", A, B)]))
        self.assertEqual(self.rule("a <- " + ", ".join(["b"] * 50)), (A, [B] * 50))
        self.assertEqual(self.rule("(a) <- (b), (c)"), (A, [B, C]))

    def test_marks_beside_the_arrow(self):
        signs = more_signs()
        self.assertEqual(self.rule("a <-- b <- c <-- d", signs), (t("<--", A, B), [t("<--", C, D)]))
        self.assertEqual(self.rule("a <- ~5"), (A, [n(-5)]))
        self.assertEqual(self.rule("a ; b <- c ; d", signs), (t(";", A, B), [t(";", C, D)]))

    def test_its_kinds(self):
        for text in ("a", "a <- b"):
            told = self.rule(text)
            self.assertIs(told.__class__, tuple)
            self.assertEqual(len(told), 2)
            self.assertIs(told[1].__class__, list)

    def test_what_is_no_rule_text(self):
        for text in ("", "  ", "<-", "a <-", "<- a", "a <- b <- c", "a <- <- b", "a <- b,", "a <- ,b", "a <- b,,c",
                     "a, b", "a, b <- c", "a <- b c", "a b <- c", "(a <- b)", "a <- (b <- c)", "a <- (b, c)", "f( <- a",
                     "a <- f()", "a <- b # c", "a # b <- c", "a <- _", "a <-- b", "a <- b = c = d", "a <- [b",
                     "a <- abcdefghijklm", "a <- b)", "a < - b", "a <- b |", ",", "a,"):
            with self.subTest(text):
                assert_refused(self, "NoText", self.rule, text)

    def test_parts_are_counted_for_each_term(self):
        big = "f([" + ", ".join(["a"] * 19) + "])"
        term = t("f", listed(*[A] * 19))
        self.assertEqual(self.rule(f"{big} <- {big}, {big}"), (term, [term, term]))
        for text in (f"f({big})", f"f({big}) <- a", f"a <- f({big})", f"a <- b, f({big})", f"a <- f({big}), b"):
            with self.subTest(text):
                assert_refused(self, "NoText", self.rule, text)


class Goals(unittest.TestCase):
    def goals(self, text, signs=None):
        return read_goals(text, first_signs() if signs is None else signs)

    def test_one_and_more(self):
        self.assertEqual(self.goals("a"), [A])
        self.assertEqual(self.goals("a, b"), [A, B])
        self.assertEqual(self.goals("  b,a ,c "), [B, A, C])
        self.assertEqual(self.goals("f(X, Y), X = [a, b], Y < 5"), [
            t("f", X, v("Y")), t("=", X, listed(A, B)), t("<", v("Y"), n(5))])
        self.assertEqual(self.goals(", ".join(["a"] * 300)), [A] * 300)
        self.assertEqual(self.goals("a ^ b ^ c, d", more_signs()), [t("^", A, t("^", B, C)), D])
        self.assertIs(self.goals("a").__class__, list)

    def test_what_is_no_text_of_goals(self):
        for text in ("", "   ", ",", "a,", ",a", "a,,b", "a, ,b", ", ,", "a b", "a <- b", "<- a", "a, b <- c", "(a, b)",
                     "a, (b", "a, b)", "a | b", "a, +", "a # b", "a, f()", "a, abcdefghijklm", "a, 05", "a\n, b",
                     "a; b", "a = b = c, d", "a, [b | c, d]"):
            with self.subTest(text):
                assert_refused(self, "NoText", self.goals, text)

    def test_parts_are_counted_for_each_term(self):
        big = "f([" + ", ".join(["a"] * 19) + "])"
        term = t("f", listed(*[A] * 19))
        self.assertEqual(self.goals(f"{big}, a, {big}"), [term, A, term])
        for text in (f"f({big})", f"a, f({big})", f"f({big}), a"):
            assert_refused(self, "NoText", self.goals, text)


class Everywhere(unittest.TestCase):
    def test_lists_are_the_askers_own(self):
        signs = first_signs()
        for call, text in ((read_goals, "a, b"), (lambda text, table: read_rule(text, table)[1], "c <- a, b"),
                           (lambda text, table: read_rule(text, table)[1], "c")):
            told = call(text, signs)
            before = list(told)
            told.append(X)
            told[0] = n(1)
            self.assertEqual(call(text, signs), before)

    def test_the_table_of_signs_stays(self):
        signs = more_signs()
        before = copy.deepcopy(signs)
        for text in ("a + b ^ c", "a # b", "f(", "a %", "a ! b ! c", "a <-- b"):
            for call in (read, read_rule, read_goals):
                try:
                    call(text, signs)
                except ValueError:
                    pass
                self.assertEqual(signs, before)
                self.assertEqual(list(signs), list(before))

    def test_the_same_question_has_the_same_answer(self):
        signs = more_signs()
        for again in range(3):
            self.assertEqual(read("a + b * [c | X]", signs), t("+", A, t("*", B, cons(C, X))))
            assert_refused(self, "NoText", read, "a ! b ! c", signs)

    def test_a_table_that_is_changed_later_is_read_as_it_is_then(self):
        signs = first_signs()
        assert_refused(self, "NoText", read, "a # b", signs)
        signs["#"] = (3, "left")
        self.assertEqual(read("a # b", signs), t("#", A, B))
        self.assertEqual(read("a + b", first_signs()), t("+", A, B))


if __name__ == "__main__":
    unittest.main()
