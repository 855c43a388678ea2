"""The looker: goes along rows of reasons, and knows the rules alone."""

from goaltrail.errors import Big, Fault
from goaltrail.falls import falls_of
from goaltrail.names import told_anew
from goaltrail.ones import matched
from goaltrail.rules import KEEP, NOT, by_word, is_named
from goaltrail.sums import is_so, reckoned
from goaltrail.terms import num


class Looker:
    def __init__(self, rules, rows):
        self.rules = rules
        self.worded = by_word(rules)
        self.rows = rows

    # Whether a row may lean on the row of this number, and that one is of this kind.
    def leads(self, place, number, kind):
        return place < number < len(self.rows) and self.rows[number][0] == kind

    def is_good(self, place):
        row = self.rows[place]
        try:
            if row[0] == "yes":
                return self.is_good_yes(place, row[1], row[2], row[3])
            return self.is_good_no(place, row[1], row[2])
        except Fault:
            return False
        except Big:
            return False

    def is_good_yes(self, place, goal, number, kids):
        if is_named(goal):
            return self.is_by_rule(place, goal, number, kids)
        if number != 0:
            return False
        if goal[1] == NOT:
            return len(kids) == 1 and self.is_no_of(place, kids[0], goal[2][0])
        return not kids and holds(goal)

    def is_by_rule(self, place, goal, number, kids):
        if not 1 <= number <= len(self.rules):
            return False
        told = self.rules[number - 1]
        if len(kids) != len(told[1]) or not all([self.leads(place, kid, "yes") for kid in kids]):
            return False
        puts = matched(told[0], goal, {})
        for asked, kid in zip(told[1], kids):
            if puts is not None:
                puts = matched(asked, self.rows[kid][1], puts)
        return puts is not None

    def is_no_of(self, place, number, goal):
        return self.leads(place, number, "no") and self.rows[number][1] == [goal]

    def is_yes_of(self, place, number, goal):
        return self.leads(place, number, "yes") and self.rows[number][1] == goal

    def is_good_no(self, place, goals, falls):
        if not goals or KEEP in [goal[1] for goal in goals]:
            return False
        if goals[0][1] == NOT:
            return self.is_good_not(place, goals, falls)
        asked = falls_of(self.worded, goals)
        if len(asked) != len(falls):
            return False
        return all([self.is_fall(place, fall, due) for fall, due in zip(falls, asked)])

    def is_good_not(self, place, goals, falls):
        goal = goals[0][2][0]
        words = [fall[0] for fall in falls]
        if words == ["held"]:
            return self.is_yes_of(place, falls[0][1], goal)
        if words != ["fell", "on"]:
            return False
        return self.is_no_of(place, falls[0][1], goal) and self.is_fall(place, falls[1], ("on", told_anew(goals[1:])))

    # Due is a fall with the goals still to be asked in the place of a row's number.
    def is_fall(self, place, fall, due):
        if fall[0] != due[0]:
            return False
        if fall[0] != "on":
            return True
        return self.leads(place, fall[1], "no") and told_anew(self.rows[fall[1]][1]) == due[1]


# Of a goal of a mark, or a keep, which never holds here.
def holds(goal):
    if goal[1] == "=":
        return goal[2][0] == goal[2][1]
    if goal[1] == ":=":
        return goal[2][0] == num(reckoned(goal[2][1]))
    return goal[1] != KEEP and is_so(goal)


def lets_by(rules, rows):
    looker = Looker(rules, rows)
    return len(rows) > 0 and all([looker.is_good(place) for place in range(len(rows))])
