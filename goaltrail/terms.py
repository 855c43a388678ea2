"""Terms as tuples, and which texts are words, unknowns' names and marks."""

SMALL = "abcdefghijklmnopqrstuvwxyz"
GREAT = "ABCDEFGHIJKLMNOPQRSTUVWXYZ"
FIGURES = "0123456789"
MARK_SIGNS = "+-*/:<=>&^?@#!;$"
ARROW = "<-"
PAIR_SIGN = "[|]"
EMPTY_LIST = ("app", "[]", ())
MOST_LETTERS = 12
MOST_MARK_SIGNS = 3
MOST_PARTS = 40


def num(n):
    return ("num", n)


def unknown(name):
    return ("any", name)


def app(sign, kids):
    return ("app", sign, tuple(kids))


def is_pair(term):
    return term[0] == "app" and term[1] == PAIR_SIGN and len(term[2]) == 2


def items_of(term):
    things = []
    rest = term
    while is_pair(rest):
        things.append(rest[2][0])
        rest = rest[2][1]
    return (things, rest)


def list_of(things, rest):
    term = rest
    for thing in reversed(things):
        term = app(PAIR_SIGN, [thing, term])
    return term


# Without recursion: the reader counts terms before it knows that they are small.
def parts(term):
    count = 0
    todo = [term]
    while todo:
        part = todo.pop()
        count += 1
        if part[0] == "app":
            todo.extend(part[2])
    return count


# Python's own isalnum takes letters and figures that are not ASCII, too.
def is_inner(sign):
    return sign in SMALL or sign in GREAT or sign in FIGURES


def is_called(text, firsts):
    if not isinstance(text, str) or not 1 <= len(text) <= MOST_LETTERS:
        return False
    return text[0] in firsts and all([is_inner(sign) for sign in text])


def is_word(text):
    return is_called(text, SMALL)


def is_name(text):
    return is_called(text, GREAT)


def is_mark(text):
    if not isinstance(text, str) or not 1 <= len(text) <= MOST_MARK_SIGNS:
        return False
    return text != ARROW and all([sign in MARK_SIGNS for sign in text])
