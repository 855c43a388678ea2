"""Code made of rules and questions: rows that work on cells and slots."""

from goaltrail.names import unknowns_of
from goaltrail.rules import KEEP, NOT, is_named, word_of
from goaltrail.switches import switch_of

MARK_ROWS = {"=": "equal", ":=": "reckon", "<": "less", "<=": "atmost"}


# The rows of one rule or question, as far as they were written. Cells are given out one behind
# the other; each goal begins anew with those behind its own kids.
class Writing:
    def __init__(self, terms):
        self.slots = {}
        for name in unknowns_of(terms):
            self.slots[name] = len(self.slots)
        self.met = {}
        self.cells = 0
        self.rows = []

    def write(self, row):
        self.rows.append(row)

    def give_cells(self, many):
        first = self.cells
        self.cells += many
        return first

    def write_head(self, head):
        self.give_cells(len(head[2]))
        for cell, kid in enumerate(head[2]):
            self.take_apart(cell, kid)

    def take_apart(self, cell, term):
        if term[0] == "num":
            self.write(("num", cell, term[1]))
        elif term[0] == "any":
            self.write(("same" if term[1] in self.met else "slot", cell, self.slots[term[1]]))
            self.met[term[1]] = True
        else:
            first = self.give_cells(len(term[2]))
            self.write(("app", cell, term[1], len(term[2]), first))
            for place, kid in enumerate(term[2]):
                self.take_apart(first + place, kid)

    def write_frame(self):
        self.write(("frame",))
        for name in self.slots:
            if name not in self.met:
                self.write(("new", self.slots[name]))

    def bring(self, cell, term):
        if term[0] == "num":
            self.write(("putnum", cell, term[1]))
        elif term[0] == "any":
            self.write(("put", cell, self.slots[term[1]]))
        else:
            first = self.give_cells(len(term[2]))
            for place, kid in enumerate(term[2]):
                self.bring(first + place, kid)
            self.write(("build", cell, term[1], len(term[2]), first))

    def write_goal(self, goal, call):
        asked = goal[2][0] if goal[1] == NOT else goal
        self.cells = len(asked[2])
        for cell, kid in enumerate(asked[2]):
            self.bring(cell, kid)
        if is_named(goal):
            self.write((call, goal[1], len(goal[2])))
        elif goal[1] == NOT:
            self.write(("not", asked[1], len(asked[2])))
        elif goal[1] == KEEP:
            self.write(("keep",))
        else:
            self.write((MARK_ROWS[goal[1]],))


def rule_code(number, rule):
    writing = Writing([rule[0]] + list(rule[1]))
    writing.write_head(rule[0])
    if rule[1]:
        writing.write_frame()
        for goal in rule[1][:-1]:
            writing.write_goal(goal, "call")
        writing.write_goal(rule[1][-1], "jump")
    if not rule[1] or not is_named(rule[1][-1]):
        writing.write(("back",))
    return (number, len(writing.slots), writing.rows)


def question_code(goals):
    writing = Writing(goals)
    writing.write_frame()
    for goal in goals:
        writing.write_goal(goal, "call")
    writing.write(("tell",))
    return (0, len(writing.slots), writing.rows)


def code_of(rules):
    codes = {}
    heads = {}
    for place, rule in enumerate(rules):
        key = word_of(rule[0])
        codes.setdefault(key, []).append(rule_code(place + 1, rule))
        heads.setdefault(key, []).append(rule[0])
    found = {}
    for key in codes:
        found[key] = (codes[key], switch_of(heads[key]))
    return found
