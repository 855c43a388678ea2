"""Why a goal holds, or doesn't: rows of reasons, made of a search."""

from goaltrail.errors import Big
from goaltrail.falls import falls_of
from goaltrail.marks import done_by_mark
from goaltrail.names import marked, told_anew
from goaltrail.ones import made_one
from goaltrail.puts import written_out
from goaltrail.rules import NOT, by_word, check_no_keep
from goaltrail.search import searched


# Goes along the way of one answer. Of each goal that was taken up it keeps the number of the row
# that it gets, and the numbers of the rows that this one leans on.
class Along:
    def __init__(self, goal):
        self.puts = {}
        self.goals = []
        self.places = []
        self.kids = []
        self.todo = [(told_anew([goal])[0], None)]

    # The next goal gets a row. Told is the goal as it stands in its rule.
    def take(self, place):
        pair = self.todo.pop(0)
        if pair[1] is not None:
            self.kids[pair[1]].append(place)
        self.goals.append(pair[0])
        self.places.append(place)
        self.kids.append([])
        return pair[0]

    # How many goals were taken up is another number each time: so the rule's unknowns are new ones.
    def go_by_rule(self, goal, rule):
        uses = len(self.goals)
        terms = [marked(term, uses) for term in told_anew([rule[0]] + list(rule[1]))]
        self.puts = made_one(goal, terms[0], self.puts)[1]
        self.todo = [(term, uses - 1) for term in terms[1:]] + self.todo

    def go_by_mark(self, goal):
        self.puts = done_by_mark(goal, self.puts)[1]


# Rows are given out first and written later, so that a row's number is less than those it leans on.
# Nots are the ways by which goals within nots held, None where they didn't.
class Reasons:
    def __init__(self, rules, nots):
        self.rules = rules
        self.worded = by_word(rules)
        self.nots = nots
        self.rows = []
        self.todo = []

    def new_place(self):
        self.rows.append(None)
        return len(self.rows) - 1

    def add_yes(self, goal, way):
        self.todo.append(("yes", self.new_place(), goal, way))
        return len(self.rows) - 1

    def add_no(self, goals):
        self.todo.append(("no", self.new_place(), goals, None))
        return len(self.rows) - 1

    def write_all(self):
        while self.todo:
            told = self.todo.pop()
            if told[0] == "yes":
                self.write_yes(told[1], told[2], told[3])
            else:
                self.write_no(told[1], told[2])
        return self.rows

    def write_yes(self, place, goal, way):
        along = Along(goal)
        for number in way:
            asked = along.take(self.new_place() if along.goals else place)
            if number > 0:
                along.go_by_rule(asked, self.rules[number - 1])
            else:
                self.go_without_rule(along, written_out(asked, along.puts))
        terms = told_anew([written_out(taken, along.puts) for taken in along.goals])
        for at, row in enumerate(along.places):
            self.rows[row] = ("yes", terms[at], way[at], along.kids[at])

    def go_without_rule(self, along, goal):
        if goal[1] == NOT:
            along.kids[-1].append(self.add_no([goal[2][0]]))
        else:
            along.go_by_mark(goal)

    def write_no(self, place, goals):
        if goals[0][1] == NOT:
            falls = self.falls_of_not(goals[0][2][0], goals[1:])
        else:
            falls = [self.with_row(fall) for fall in falls_of(self.worded, goals)]
        self.rows[place] = ("no", goals, falls)

    def with_row(self, fall):
        return ("on", self.add_no(fall[1])) if fall[0] == "on" else fall

    def falls_of_not(self, goal, rest):
        way = self.nots[goal]
        if way is not None:
            return [("held", self.add_yes(goal, way))]
        return [("fell", self.add_no([goal])), ("on", self.add_no(rest))]


def why(rules, goal, bound=200):
    check_no_keep(rules)
    run = searched(rules, [goal], bound, 1)
    if not run.answers and run.end != ("all",):
        return (run.end[0], [])
    reasons = Reasons(rules, run.nots)
    if run.answers:
        reasons.add_yes(goal, run.answers[0][1])
    else:
        reasons.add_no(told_anew([goal]))
    try:
        return ("yes" if run.answers else "no", reasons.write_all())
    except Big:
        return ("big", [])
