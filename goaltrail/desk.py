"""The desk: texts are asked of a program's text, and texts are told."""

from goaltrail.errors import NoRule
from goaltrail.machine import run
from goaltrail.maker import code_of
from goaltrail.program import program_of
from goaltrail.reader import read_goals
from goaltrail.rules import is_named, question
from goaltrail.search import search
from goaltrail.tables import fill
from goaltrail.terms import app, unknown
from goaltrail.why import why
from goaltrail.writer import shown


class Desk:
    def __init__(self, text):
        program = program_of(text)
        self.signs = program[0]
        self.rules = program[1]
        self.code = code_of(program[1])

    def ask(self, text, bound=200, most=10):
        return self.run_shown(run(self.code, self.goals_of(text), bound, most))

    def plainly(self, text, bound=200, most=10):
        return self.run_shown(search(self.rules, self.goals_of(text), bound, most))

    def table(self, text):
        told = fill(self.rules, self.named_of(text))
        answers = told[1][0][1] if told[1] else []
        return sorted([self.show(answer[0]) for answer in answers]) + [told[0]]

    def why(self, text, bound=200):
        told = why(self.rules, self.named_of(text), bound)
        return [told[0]] + [self.row_shown(row) for row in told[1]]

    def goals_of(self, text):
        return question(read_goals(text, self.signs))

    def named_of(self, text):
        goals = self.goals_of(text)
        if len(goals) != 1 or not is_named(goals[0]):
            raise NoRule("what is asked is no single named goal")
        return goals[0]

    def show(self, term):
        return shown(term, self.signs)

    def run_shown(self, told):
        return [self.answer_shown(pair[0]) for pair in told[0]] + [self.end_shown(told[1])]

    def answer_shown(self, pairs):
        if not pairs:
            return "yes"
        return ", ".join([self.show(app("=", [unknown(name), term])) for name, term in pairs])

    def end_shown(self, end):
        if len(end) == 1:
            return end[0]
        return " ".join([end[0], end[1], self.show(end[2])])

    def row_shown(self, row):
        if row[0] == "no":
            goals = ", ".join([self.show(goal) for goal in row[1]])
            return "; ".join([f"no {goals}"] + [with_numbers(fall[0], fall[1:]) for fall in row[2]])
        goal = self.show(row[1])
        number = row[2]
        text = f"yes {goal} by {number}"
        return with_numbers(f"{text} from", row[3]) if row[3] else text


def with_numbers(word, numbers):
    return " ".join([word] + [str(number) for number in numbers])
