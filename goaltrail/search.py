"""The searcher: goals asked one behind the other, by the rules in their order."""

from goaltrail.errors import Big, Fault
from goaltrail.names import marked, told_anew, unknowns_of
from goaltrail.ones import Joining
from goaltrail.puts import parts_up_to, written_out
from goaltrail.rules import KEEP, NOT, by_word, is_named, word_of
from goaltrail.sums import is_so, reckoned
from goaltrail.terms import MOST_PARTS, num, unknown


# A way that was left: a goal with the rules it has still to try; or, without rules, what is
# behind a not of the goal. The rest is how the run stood when the goal or the not was taken up.
class Way:
    def __init__(self, goal, rules, todo, numbers, noted_then):
        self.goal = goal
        self.rules = rules
        self.todo = todo
        self.numbers = numbers
        self.noted_then = noted_then


# What is to be asked is a list of pairs: a goal, and how many ways were left when the goal was
# taken up to whose rule it belongs (0 in a question). None as a goal is the end of a not's goal.
# The unknowns of question and rules are told anew, and those of a rule are marked each time: so
# they are new ones, whatever names were handed in. Of each goal that was asked within a not it is
# noted by which way it held, or None where by none: as it has no unknowns, this is always the same.
class Run:
    def __init__(self, rules, goals, bound, most):
        self.rules = by_word(rules)
        self.bound = bound
        self.most = most
        self.names = unknowns_of(goals)
        self.asked = told_anew([unknown(name) for name in self.names])
        self.todo = [(goal, 0) for goal in told_anew(goals)]
        self.numbers = []
        self.puts = {}
        self.noted = []
        self.left = []
        self.nots = {}
        self.uses = 0
        self.count = 0
        self.answers = []
        self.end = None

    # This and the next ones tell True where the way goes on, False where it falls.
    def go_on(self):
        if not self.todo:
            return self.tell_answer()
        first = self.todo[0]
        self.todo = self.todo[1:]
        if first[0] is None:
            return self.end_not(first[1])
        return self.take_up(first[0], first[1])

    def end_not(self, height):
        begun = self.left[height]
        self.nots[begun.goal] = self.numbers[len(begun.numbers):]
        self.left = self.left[:height]
        return False

    def go_back(self):
        if not self.left:
            return self.end_with(("all",))
        last = self.left.pop()
        while len(self.noted) > last.noted_then:
            self.puts.pop(self.noted.pop())
        self.todo = last.todo
        self.numbers = last.numbers
        if last.rules:
            return self.try_rule(last)
        self.nots[last.goal] = None
        return True

    def end_with(self, end):
        self.end = end
        return False

    def tell_answer(self):
        if parts_together(self.asked, self.puts) > MOST_PARTS:
            return self.end_with(("big",))
        terms = told_anew([written_out(term, self.puts) for term in self.asked])
        self.answers.append((list(zip(self.names, terms)), list(self.numbers)))
        if len(self.answers) >= self.most:
            return self.end_with(("enough",))
        return False

    def take_up(self, goal, height):
        if self.count >= self.bound:
            return self.end_with(("spent",))
        self.count += 1
        try:
            reading = written_out(goal, self.puts)
        except Big:
            return self.end_with(("big",))
        return self.do_goal(reading, height)

    def do_goal(self, goal, height):
        if is_named(goal):
            return self.ask_rules(goal)
        self.numbers = self.numbers + [0]
        try:
            return self.do_other(goal, height)
        except Fault as fault:
            return self.end_with(("fault", fault.word, told_anew([goal])[0]))

    # All its rules are left as ways, so the way falls to the first of them.
    def ask_rules(self, goal):
        found = self.rules.get(word_of(goal), [])
        if found:
            self.leave(goal, found)
        return False

    def leave(self, goal, rules):
        self.left.append(Way(goal, rules, self.todo, self.numbers, len(self.noted)))

    def try_rule(self, way):
        height = len(self.left)
        tried = way.rules[0]
        if len(way.rules) > 1:
            self.leave(way.goal, way.rules[1:])
        self.uses += 1
        if not self.make_one(marked(tried[1], self.uses), way.goal):
            return False
        self.todo = [(marked(goal, self.uses), height) for goal in tried[2]] + self.todo
        self.numbers = self.numbers + [tried[0]]
        return True

    def do_other(self, goal, height):
        sign = goal[1]
        if sign == KEEP:
            self.left = self.left[:height]
            return True
        if sign == NOT:
            return self.ask_not(goal[2][0])
        if sign == "=":
            return self.make_one(goal[2][0], goal[2][1])
        if sign == ":=":
            return self.make_one(goal[2][0], num(reckoned(goal[2][1])))
        return is_so(goal)

    # What is behind the not is left as a way, which is gone on with where its goal has no way.
    def ask_not(self, goal):
        if unknowns_of([goal]):
            raise Fault("open")
        height = len(self.left)
        self.leave(goal, [])
        self.todo = [(goal, height), (None, height)]
        return True

    def make_one(self, one, other):
        return Joining(self.puts, self.noted).join_terms(one, other) is None


def parts_together(terms, puts):
    count = 0
    for term in terms:
        count += parts_up_to(term, puts, MOST_PARTS)
    return count


# The whole run, as it stands at its end.
def searched(rules, goals, bound, most):
    run = Run(rules, goals, bound, most)
    going = True
    while run.end is None:
        going = run.go_on() if going else run.go_back()
    return run


def search(rules, goals, bound=200, most=10):
    run = searched(rules, goals, bound, most)
    return (run.answers, run.end, run.count)
