"""The machine: goals asked by code that was made of rules."""

from goaltrail.errors import Fault
from goaltrail.heap import Heap
from goaltrail.maker import question_code
from goaltrail.names import told_anew, unknowns_of
from goaltrail.rules import NOT
from goaltrail.sums import is_so, reckoned
from goaltrail.switches import key_of, picked
from goaltrail.terms import MOST_PARTS, app

HEAD_ROWS = ("slot", "same", "num", "app")
PUT_ROWS = ("new", "put", "putnum", "build")
MARK_ROWS = {"equal": "=", "reckon": ":=", "less": "<", "atmost": "<="}


# Where to go on: a row, and the number of the frame that it belongs to. At the end of a not's
# goal there are no rows, and at is how many ways were left when the not was taken up.
class Place:
    def __init__(self, rows, at, frame):
        self.rows = rows
        self.at = at
        self.frame = frame


# The height is how many ways were left when the goal was taken up that the rule is tried for: a
# keep lets all others go.
class Frame:
    def __init__(self, slots, behind, height):
        self.slots = slots
        self.behind = behind
        self.height = height


# A way that was left: the codes that a goal of these kids has still to try; or, without codes,
# what is behind a not. The rest is how the machine stood then.
class Way:
    def __init__(self, codes, kids, behind, machine):
        self.codes = codes
        self.kids = kids
        self.behind = behind
        self.numbers = machine.numbers
        self.stood = len(machine.frames)
        self.heap_then = machine.heap.mark()


class Machine:
    def __init__(self, code, goals, bound, most):
        self.code = code
        self.bound = bound
        self.most = most
        self.names = unknowns_of(goals)
        self.heap = Heap()
        self.frames = []
        self.deepest = 0
        self.ways = []
        self.numbers = []
        self.count = 0
        self.answers = []
        self.end = None
        self.begin(question_code(goals), [], None)

    # A rule has no frame as long as its head is made one with the goal.
    def begin(self, code, kids, behind):
        self.rows = code[2]
        self.at = 0
        self.cells = dict(enumerate(kids))
        self.slots = {}
        self.behind = behind
        self.height = len(self.ways)
        self.frame = None

    # This and the next ones tell True where the way goes on, False where it falls.
    def step(self):
        row = self.rows[self.at]
        self.at += 1
        if row[0] in HEAD_ROWS:
            return self.do_head(row)
        if row[0] in PUT_ROWS:
            return self.do_put(row)
        if row[0] in MARK_ROWS:
            return self.do_mark(MARK_ROWS[row[0]])
        return self.do_turn(row)

    def do_head(self, row):
        at = self.cells[row[1]]
        if row[0] == "slot":
            self.slots[row[2]] = at
            return True
        if row[0] == "same":
            return self.heap.one(at, self.slots[row[2]])
        if row[0] == "num":
            return self.heap.one(at, self.heap.number(row[2]))
        return self.take_apart(at, row)

    def take_apart(self, at, row):
        if self.heap.look(at)[0] == "free":
            new = [self.heap.free() for place in range(row[3])]
            self.heap.one(at, self.heap.app(row[2], new))
        box = self.heap.look(at)
        if key_of(box) != ("app", row[2], row[3]):
            return False
        for place, kid in enumerate(box[2]):
            self.cells[row[4] + place] = kid
        return True

    def do_put(self, row):
        if row[0] == "new":
            self.slots[row[1]] = self.heap.free()
        elif row[0] == "put":
            self.cells[row[1]] = self.slots[row[2]]
        elif row[0] == "putnum":
            self.cells[row[1]] = self.heap.number(row[2])
        else:
            self.cells[row[1]] = self.heap.app(row[2], [self.cells[row[4] + place] for place in range(row[3])])
        return True

    def do_turn(self, row):
        if row[0] == "frame":
            return self.make_frame()
        if row[0] == "call":
            return self.ask_named(row[1], self.kids_of(row[2]), self.next_place())
        if row[0] == "jump":
            return self.ask_named(row[1], self.kids_of(row[2]), self.leave_rule())
        if row[0] == "not":
            return self.ask_not(row[1], self.kids_of(row[2]))
        if row[0] == "keep":
            return self.keep_way()
        if row[0] == "back":
            return self.go_to(self.leave_rule())
        return self.tell_answer()

    def make_frame(self):
        self.frame = len(self.frames)
        self.frames.append(Frame(self.slots, self.behind, self.height))
        self.deepest = max(self.deepest, len(self.frames))
        return True

    def next_place(self):
        return Place(self.rows, self.at, self.frame)

    # Tells where to go on behind the rule. Its frame stays where a way would still go on in it.
    def leave_rule(self):
        if self.frame is None:
            return self.behind
        behind = self.frames[self.frame].behind
        if not self.ways or self.ways[-1].stood <= self.frame:
            self.frames = self.frames[:self.frame]
        return behind

    def go_to(self, place):
        if place.rows is None:
            self.ways = self.ways[:place.at]
            return False
        self.rows = place.rows
        self.at = place.at
        self.frame = place.frame
        self.slots = self.frames[place.frame].slots
        return True

    def kids_of(self, many):
        return [self.cells[place] for place in range(many)]

    def parts_together(self, places):
        return sum([self.heap.parts(at, MOST_PARTS) for at in places])

    # The goal has one part for each of its signs besides its kids.
    def take_up(self, signs, kids):
        if self.count >= self.bound:
            return self.end_with(("spent",))
        self.count += 1
        if signs + self.parts_together(kids) > MOST_PARTS:
            return self.end_with(("big",))
        return True

    def ask_named(self, sign, kids, behind):
        if not self.take_up(1, kids):
            return False
        found = self.code.get((sign, len(kids)), ([], ({}, 0, 0)))
        bits = picked(found[1], self.first_key(kids))
        codes = [code for place, code in enumerate(found[0]) if bits >> place & 1]
        return self.try_codes(codes, kids, behind)

    def first_key(self, kids):
        return key_of(self.heap.look(kids[0])) if kids else None

    def try_codes(self, codes, kids, behind):
        if not codes:
            return False
        self.begin(codes[0], kids, behind)
        if len(codes) > 1:
            self.leave(codes[1:], kids, behind)
        self.numbers = self.numbers + [codes[0][0]]
        return True

    def leave(self, codes, kids, behind):
        self.ways.append(Way(codes, kids, behind, self))

    # What is behind the not is left as a way, which is gone on with where its goal has no way.
    def ask_not(self, sign, kids):
        if not self.take_up(2, kids):
            return False
        self.numbers = self.numbers + [0]
        goal = self.goal_of(sign, kids)
        if unknowns_of([goal]):
            return self.end_with_fault("open", app(NOT, [goal]))
        height = len(self.ways)
        self.leave([], [], self.next_place())
        return self.ask_named(sign, kids, Place(None, height, None))

    def keep_way(self):
        if not self.take_up(1, []):
            return False
        self.numbers = self.numbers + [0]
        self.ways = self.ways[:self.frames[self.frame].height]
        return True

    def do_mark(self, sign):
        kids = self.kids_of(2)
        if not self.take_up(1, kids):
            return False
        self.numbers = self.numbers + [0]
        if sign == "=":
            return self.heap.one(kids[0], kids[1])
        goal = self.goal_of(sign, kids)
        try:
            if sign == ":=":
                return self.heap.one(kids[0], self.heap.number(reckoned(goal[2][1])))
            return is_so(goal)
        except Fault as fault:
            return self.end_with_fault(fault.word, goal)

    def goal_of(self, sign, kids):
        return app(sign, [self.heap.term(kid) for kid in kids])

    def end_with(self, end):
        self.end = end
        return False

    def end_with_fault(self, word, goal):
        return self.end_with(("fault", word, told_anew([goal])[0]))

    # The question's slots are numbered as its unknowns are told.
    def tell_answer(self):
        places = [self.slots[slot] for slot in range(len(self.names))]
        if self.parts_together(places) > MOST_PARTS:
            return self.end_with(("big",))
        terms = told_anew([self.heap.term(at) for at in places])
        self.answers.append((list(zip(self.names, terms)), list(self.numbers)))
        if len(self.answers) >= self.most:
            return self.end_with(("enough",))
        return False

    def go_back(self):
        if not self.ways:
            return self.end_with(("all",))
        last = self.ways.pop()
        self.heap.back_to(last.heap_then)
        self.frames = self.frames[:last.stood]
        self.numbers = last.numbers
        if last.codes:
            return self.try_codes(last.codes, last.kids, last.behind)
        return self.go_to(last.behind)


def run(code, goals, bound=200, most=10):
    machine = Machine(code, goals, bound, most)
    going = True
    while machine.end is None:
        going = machine.step() if going else machine.go_back()
    return (machine.answers, machine.end, machine.count, machine.deepest)
