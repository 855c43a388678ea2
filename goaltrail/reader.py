"""Terms, rules and goals read from texts."""

from goaltrail.errors import NoText
from goaltrail.terms import ARROW, EMPTY_LIST, MOST_PARTS, app, is_name, is_word, list_of, num, parts, unknown
from goaltrail.words import BELOW_NOUGHT, pieces

MOST_KIDS = 4
BEHIND_ALL = ("end", "")
# Which single sign closes a level; nothing closes the whole term.
CLOSERS = {"whole": "", "round": ")", "kids": ")", "list": "]", "rest": "]"}


# What stands so far in one open bracket, or in the whole term. Levels lie on a list of the
# reader's own, as brackets may lie deeper than calls should.
class Level:
    def __init__(self, kind, word):
        self.kind = kind
        self.word = word
        self.done = []
        # The term that is being read: things, and the marks between them that still wait.
        self.sides = []
        self.waiting = []


class Reading:
    def __init__(self, row, signs):
        self.row = row
        self.signs = signs
        self.at = 0
        self.levels = []

    def seen(self, ahead):
        place = self.at + ahead
        return self.row[place] if place < len(self.row) else BEHIND_ALL

    def sees(self, text):
        return self.seen(0) == ("sign", text)

    def take_term(self):
        self.levels = [Level("whole", "")]
        going = True
        while going:
            self.take_openers()
            self.take_thing()
            self.take_closers()
            going = self.take_between()
        if len(self.levels) > 1:
            raise NoText("a bracket is not closed")
        whole = self.levels[0]
        finish(whole)
        if parts(whole.done[0]) > MOST_PARTS:
            raise NoText(f"a term has more than {MOST_PARTS} parts")
        return whole.done[0]

    def take_openers(self):
        going = True
        while going:
            behind = self.seen(1)
            if self.sees("("):
                self.begin("round", "", 1)
            elif self.sees("[") and behind != ("sign", "]"):
                self.begin("list", "", 1)
            elif self.seen(0)[0] == "word" and behind == ("sign", "("):
                self.begin("kids", checked_word(self.seen(0)[1]), 2)
            else:
                going = False

    def begin(self, kind, word, long):
        self.levels.append(Level(kind, word))
        self.at += long

    def take_thing(self):
        sides = self.levels[-1].sides
        if self.sees("["):
            sides.append(EMPTY_LIST)
            self.at += 2
        else:
            sides.append(thing_of(self.seen(0)))
            self.at += 1

    def take_closers(self):
        while self.sees(CLOSERS[self.levels[-1].kind]):
            level = self.levels.pop()
            finish(level)
            self.levels[-1].sides.append(closed(level))
            self.at += 1

    # What leads from one thing to the next; False where none is there.
    def take_between(self):
        level = self.levels[-1]
        piece = self.seen(0)
        if piece[0] == "mark":
            add_mark(level, piece[1], self.signs)
        elif self.sees(",") and level.kind in ("kids", "list"):
            finish(level)
        elif self.sees("|") and level.kind == "list":
            finish(level)
            level.kind = "rest"
        else:
            return False
        self.at += 1
        return True

    def take_sign(self, text):
        found = self.sees(text)
        if found:
            self.at += 1
        return found

    def take_terms(self):
        terms = [self.take_term()]
        while self.take_sign(","):
            terms.append(self.take_term())
        return terms

    def take_end(self):
        if self.seen(0) != BEHIND_ALL:
            raise NoText("behind what was read there is more")


def checked_word(text):
    if not is_word(text):
        raise NoText(f"{text} is too long for a word")
    return text


def checked_name(text):
    if not is_name(text):
        raise NoText(f"{text} is too long for a name")
    return text


def number_of(text):
    if text[0] == BELOW_NOUGHT:
        return -int(text[1:])
    return int(text)


def thing_of(piece):
    if piece[0] == "num":
        return num(number_of(piece[1]))
    if piece[0] == "name":
        return unknown(checked_name(piece[1]))
    if piece[0] == "word":
        return app(checked_word(piece[1]), [])
    raise NoText(f"a term is missing ahead of {piece!r}")


def add_mark(level, mark, signs):
    if mark not in signs:
        raise NoText(f"the table lacks the mark {mark}")
    while level.waiting and binds_first(signs[level.waiting[-1]], signs[mark]):
        join_last(level)
    level.waiting.append(mark)


# Of two marks with one thing between, whether it belongs to the earlier one.
def binds_first(earlier, later):
    if earlier[0] != later[0]:
        return earlier[0] < later[0]
    if later[1] == "none":
        raise NoText("two marks that have no side are beside one thing")
    return later[1] == "left"


def join_last(level):
    right = level.sides.pop()
    left = level.sides.pop()
    level.sides.append(app(level.waiting.pop(), [left, right]))


def finish(level):
    while level.waiting:
        join_last(level)
    level.done.append(level.sides.pop())


def closed(level):
    if level.kind == "round":
        return level.done[0]
    if level.kind == "list":
        return list_of(level.done, EMPTY_LIST)
    if level.kind == "rest":
        return list_of(level.done[:-1], level.done[-1])
    if len(level.done) > MOST_KIDS:
        raise NoText(f"a word has more than {MOST_KIDS} kids")
    return app(level.word, level.done)


def read(text, signs):
    reading = Reading(pieces(text), signs)
    term = reading.take_term()
    reading.take_end()
    return term


def read_rule(text, signs):
    reading = Reading(pieces(text), signs)
    head = reading.take_term()
    goals = []
    if reading.take_sign(ARROW):
        goals = reading.take_terms()
    reading.take_end()
    return (head, goals)


def read_goals(text, signs):
    reading = Reading(pieces(text), signs)
    goals = reading.take_terms()
    reading.take_end()
    return goals
