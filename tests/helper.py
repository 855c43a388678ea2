"""What the tests share: terms written by hand, and how a refusal is looked at."""

import random
import sys

from goaltrail import errors
from goaltrail.reader import read, read_goals, read_rule
from goaltrail.signs import first_signs
from goaltrail.writer import shown

REFUSALS = ("NoText", "NoSign", "NoRule", "Big", "HasKeep", "NotLayered", "Fault")


# These write the tuples themselves, so that a fault in goaltrail.terms can't hide itself.
def n(number):
    return ("num", number)


def v(name):
    return ("any", name)


def t(sign, *kids):
    return ("app", sign, kids)


NIL = t("[]")
A = t("a")
B = t("b")
C = t("c")
X = v("X")

LISTS = ("app([], L, L)", "app([H | T], L, [H | R]) <- app(T, L, R)", "in(X, [X | T])", "in(X, [Y | T]) <- in(X, T)")
FAMILY = ("child(ann, bob)", "child(ann, cat)", "child(bob, dan)", "child(cat, eve)", "child(cat, fay)",
          "grand(X, Z) <- child(X, Y), child(Y, Z)", "below(X, Y) <- child(X, Y)",
          "below(X, Z) <- child(X, Y), below(Y, Z)")
FACTS = ("p(a)", "p(b)", "p(c)", "s", "q(b)", "q(c)")


def cons(*things):
    """A list of all things but the last one, which is the rest."""
    term = things[-1]
    for thing in reversed(things[:-1]):
        term = t("[|]", thing, term)
    return term


def listed(*things):
    return cons(*things, NIL)


def term_of(text):
    return read(text, first_signs())


def goals_of(text):
    return read_goals(text, first_signs()) if text else []


def rules_of(*texts):
    """Rules as they are told for the searcher: tuples of a head and a tuple of goals."""
    told = [read_rule(text, first_signs()) for text in texts]
    return [(head, tuple(goals)) for head, goals in told]


def program_text(rules, signs, marks):
    """A program's text: the rows that tell these marks ahead, then the rules."""
    rows = [f"infix {mark} {signs[mark][0]} {signs[mark][1]}" for mark in marks]
    for head, goals in rules:
        told = " <- " + ", ".join(shown(goal, signs) for goal in goals) if goals else ""
        rows.append(shown(head, signs) + told)
    return "\n".join(rows)


def nested(many):
    """A term of so many parts, each within the next one."""
    term = A
    for again in range(many - 1):
        term = t("f", term)
    return term


def chain(many, last):
    """X0 to X1 to X2 .., the last one to a term."""
    puts = {f"X{k}": v(f"X{k + 1}") for k in range(many - 1)}
    puts[f"X{many - 1}"] = last
    return puts


def doubled(many, name="X"):
    """Each unknown put in for twice the next one: X0 reads with 2 ** (many + 1) - 1 parts."""
    return {f"{name}{k}": t("f", v(f"{name}{k + 1}"), v(f"{name}{k + 1}")) for k in range(many)}


def plainly_put(term, puts):
    """How a term reads by puttings-in, in the plainest way."""
    if term[0] == "any" and term[1] in puts:
        return plainly_put(puts[term[1]], puts)
    if term[0] == "app":
        return t(term[1], *[plainly_put(kid, puts) for kid in term[2]])
    return term


def stands_in(name, term):
    return term == v(name) or (term[0] == "app" and any(stands_in(name, kid) for kid in term[2]))


def first_difference(left, right, path=()):
    """The first place, a kid's kids ahead of the next kid, at which two terms aren't the same."""
    if left == right:
        return None
    if left[0] == right[0] == "app" and left[1] == right[1] and len(left[2]) == len(right[2]):
        for place, kids in enumerate(zip(left[2], right[2])):
            found = first_difference(kids[0], kids[1], path + (place,))
            if found is not None:
                return found
    return (path, left, right)


def told_of(term):
    return term if term[0] == "num" else ("app", term[1], len(term[2]))


def slowly_joined(one, other, puts):
    """As the document tells it, both terms being written out anew at each step: puts in, in place."""
    while True:
        found = first_difference(plainly_put(one, puts), plainly_put(other, puts))
        if found is None:
            return None
        path, left, right = found
        if left[0] != "any" and right[0] != "any":
            return ("part", path, told_of(left), told_of(right))
        name, term = (left[1], right) if left[0] == "any" else (right[1], left)
        if stands_in(name, term):
            return ("ring", path, name)
        puts[name] = term


def slowly_made_one(one, other, puts):
    new = dict(puts)
    return slowly_joined(one, other, new) or ("one", new)


def names_in(term):
    """The names in a term, each as often as it stands there, from the left."""
    if term[0] == "any":
        return [term[1]]
    return [name for kid in term[2] for name in names_in(kid)] if term[0] == "app" else []


def called(term, names):
    """A term with its unknowns called by other names."""
    if term[0] == "any":
        return v(names[term[1]])
    return t(term[1], *[called(kid, names) for kid in term[2]]) if term[0] == "app" else term


def count_parts(term):
    """How many parts a term has, counted in the plainest way."""
    return 1 + sum(count_parts(kid) for kid in term[2]) if term[0] == "app" else 1


def slowly_anew(terms):
    found = dict.fromkeys(name for term in terms for name in names_in(term))
    names = {name: f"U{k + 1}" for k, name in enumerate(found)}
    return [called(term, names) for term in terms]


def slow_sum(term):
    if term[0] == "any":
        return "open"
    if term[0] == "num":
        return term[1]
    if term[1] not in ("+", "-", "*", "/", "/:"):
        return "kind"
    left = slow_sum(term[2][0])
    right = slow_sum(term[2][1]) if not isinstance(left, str) else left
    if isinstance(right, str):
        return right
    if term[1] in ("/", "/:") and right == 0:
        return "nought"
    told = {"+": left + right, "-": left - right, "*": left * right,
            "/": right and left // right, "/:": right and left % right}[term[1]]
    return told if abs(told) < 10 ** 30 else "far"


class Chance:
    """Programs and questions made by chance of a fixed seed, with goals of every kind."""

    WORDS = (("p", 1), ("q", 1), ("r", 2), ("s", 0), ("t", 1))
    NAMES = ("X", "Y", "Z")

    def __init__(self, seed, keeps=True):
        self.source = random.Random(seed)
        self.keeps = keeps

    def pick(self, *things):
        return self.source.choice(things)

    def under(self, many):
        return self.source.randrange(many)

    def term(self, depth):
        sort = self.under(10 if depth else 8)
        if sort < 4:
            return v(self.pick(*self.NAMES))
        if sort < 6:
            return self.pick(A, B)
        if sort < 8:
            return n(self.under(3))
        return t("f", *[self.term(depth - 1) for again in range(self.pick(1, 2))])

    def sum(self):
        sort = self.under(6)
        if sort < 3:
            return n(self.under(4))
        if sort == 3:
            return v(self.pick(*self.NAMES))
        return t(self.pick("+", "-", "/"), self.sum(), n(self.under(3)))

    def named(self, ground=False):
        word, many = self.pick(*self.WORDS)
        return t(word, *[self.pick(A, B, n(0), n(1)) if ground else self.term(1) for again in range(many)])

    def goal(self):
        sort = self.under(20)
        if sort == 11 and self.keeps:
            return t("keep")
        if sort < 12:
            return self.named()
        if sort < 15:
            return t("not", self.named(self.under(5) > 0))
        if sort < 17:
            return t("=", self.term(1), self.term(2))
        if sort == 17:
            return t(":=", self.term(0), self.sum())
        return t(self.pick("<", "<="), n(self.under(3)), self.sum())

    def rules(self):
        rules = [(self.named(True), ()) for again in range(self.under(6))]
        for again in range(2 + self.under(8)):
            many = self.pick(0, 0, 1, 1, 2, 3)
            rules.append((self.named(), tuple(self.goal() for more in range(many))))
        if self.under(4) == 0:
            rules.extend(rules_of("r(X, f(X, X))", "p(X) <- r(X, Y), p(Y)"))
        self.source.shuffle(rules)
        return rules

    def question(self):
        return [self.goal() for again in range(self.pick(0, 1, 1, 2, 2, 3, 4))]


def called_within(many, call):
    """What a call tells where it may go no deeper than so many calls."""
    depth = 0
    frame = sys._getframe()
    while frame is not None:
        depth += 1
        frame = frame.f_back
    before = sys.getrecursionlimit()
    sys.setrecursionlimit(depth + many)
    try:
        return call()
    finally:
        sys.setrecursionlimit(before)


def assert_refused(case, name, call, *arguments, row=0):
    """The call is refused with the error class of this name, and with no other one."""
    with case.assertRaises(errors.TrailError) as told:
        call(*arguments)
    error = told.exception
    case.assertIs(error.__class__, getattr(errors, name))
    case.assertIsInstance(error, ValueError)
    for other in REFUSALS:
        if other != name:
            case.assertNotIsInstance(error, getattr(errors, other))
    case.assertEqual(error.row, row)
    case.assertIs(error.row.__class__, int)
    return error
