"""Tables: the answers of a goal, and of each goal that is met, filled to a standstill."""

from goaltrail.errors import Big, Fault
from goaltrail.layers import layers_of
from goaltrail.marks import done_by_mark
from goaltrail.names import marked, told_anew, unknowns_of
from goaltrail.ones import made_one
from goaltrail.puts import written_out
from goaltrail.rules import NOT, by_word, check_no_keep, is_named, word_of

MOST_TABLES = 24
MOST_ANSWERS = 60
MOST_STEPS = 300


# The answers are tuples (term, rank, number, reasons), as they are told.
class Table:
    def __init__(self, goal, layer):
        self.goal = goal
        self.layer = layer
        self.answers = []
        self.known = {}


# How far one went along a rule's goals: how many of them are done, and by which answers.
class Going:
    def __init__(self, puts, done, reasons):
        self.puts = puts
        self.done = done
        self.reasons = reasons


# Tables are gone over again and again, those of the lower layers first, until nothing new comes.
# What is too much is refused with Big: what is met on the way is met at the standstill, too, so
# there is no need to wait for it.
class Filling:
    def __init__(self, rules):
        self.layers = layers_of(rules)
        self.rules = by_word(rules)
        self.tables = []
        self.places = {}
        self.settled = 0
        self.many_answers = 0
        self.steps = 0
        self.changed = False

    def fill_for(self, goal):
        self.table_for(written_out(goal, {}))
        while self.changed:
            self.changed = False
            self.go_over_all()

    def go_over_all(self):
        self.steps = 0
        for layer in sorted(set([table.layer for table in self.tables])):
            # Where those of the lower layers brought nothing new, they are at their standstill.
            self.settled = len(self.tables)
            for table in self.tables[:self.settled]:
                if table.layer == layer:
                    self.go_over(table)
            if self.changed:
                return

    def go_over(self, table):
        for rule in self.rules.get(word_of(table.goal), []):
            told = made_one(table.goal, marked(rule[1], 0), {})
            if told[0] == "one":
                self.count_step()
                self.go_through(table, rule, told[1])

    def count_step(self):
        self.steps += 1
        if self.steps > MOST_STEPS:
            raise Big("there are too many steps")

    def go_through(self, table, rule, puts):
        todo = [Going(puts, 0, [])]
        while todo:
            going = todo.pop()
            if going.done == len(rule[2]):
                self.add_answer(table, rule[0], going)
            else:
                goal = written_out(marked(rule[2][going.done], 0), going.puts)
                todo.extend(list(reversed(self.goings_on(goal, going))))

    def goings_on(self, goal, going):
        if is_named(goal):
            return self.by_answers(goal, going)
        if goal[1] == NOT:
            return [Going(going.puts, going.done + 1, going.reasons)] if self.is_empty(goal[2][0]) else []
        told = done_by_mark(goal, going.puts)
        return [Going(told[1], going.done + 1, going.reasons)] if told[0] == "one" else []

    # The answer's unknowns are marked by another number than the rule's and each other answer's.
    def by_answers(self, goal, going):
        number = self.table_for(goal)
        found = []
        for place, answer in enumerate(self.tables[number].answers):
            self.count_step()
            told = made_one(goal, marked(answer[0], going.done + 1), going.puts)
            found.append(Going(told[1], going.done + 1, going.reasons + [(number, place)]))
        return found

    # A table that isn't settled yet may still get answers: the way is gone again behind that.
    def is_empty(self, goal):
        if unknowns_of([goal]):
            raise Fault("open")
        number = self.table_for(goal)
        return number < self.settled and not self.tables[number].answers

    def table_for(self, goal):
        told = told_anew([goal])[0]
        if told not in self.places:
            if len(self.tables) == MOST_TABLES:
                raise Big("there are too many tables")
            self.places[told] = len(self.tables)
            self.tables.append(Table(told, self.layers.get(word_of(told), 0)))
            self.changed = True
        return self.places[told]

    def add_answer(self, table, number, going):
        term = told_anew([written_out(table.goal, going.puts)])[0]
        if term in table.known:
            return
        if self.many_answers == MOST_ANSWERS:
            raise Big("there are too many answers")
        ranks = [self.tables[reason[0]].answers[reason[1]][1] for reason in going.reasons]
        table.answers.append((term, max([0] + ranks) + 1, number, list(going.reasons)))
        table.known[term] = True
        self.many_answers += 1
        self.changed = True


def fill(rules, goal):
    check_no_keep(rules)
    filling = Filling(rules)
    try:
        filling.fill_for(goal)
    except Big:
        return ("full", [])
    except Fault:
        return ("fault", [])
    return ("done", [(table.goal, table.answers) for table in filling.tables])
