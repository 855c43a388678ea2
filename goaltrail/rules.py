"""Which terms are goals, and rules and questions made of them."""

from goaltrail.errors import HasKeep, NoRule
from goaltrail.names import told_anew
from goaltrail.terms import is_word, parts

KEEP = "keep"
NOT = "not"
GOAL_MARKS = ("=", ":=", "<", "<=")
MOST_GOALS = 6
MOST_GOAL_PARTS = 24


def is_named(term):
    return term[0] == "app" and is_word(term[1]) and term[1] not in (KEEP, NOT)


def is_goal(term):
    if term[0] != "app":
        return False
    if term[1] == KEEP:
        return len(term[2]) == 0
    if term[1] == NOT:
        return len(term[2]) == 1 and is_named(term[2][0])
    if term[1] in GOAL_MARKS:
        return len(term[2]) == 2
    return is_named(term)


def check_parts(term):
    if parts(term) > MOST_GOAL_PARTS:
        raise NoRule(f"a head or a goal has more than {MOST_GOAL_PARTS} parts")


def check_goals(goals):
    if len(goals) > MOST_GOALS:
        raise NoRule(f"there are more than {MOST_GOALS} goals")
    for goal in goals:
        if not is_goal(goal):
            raise NoRule("a term is asked that is no goal")
        check_parts(goal)


def rule(head, goals):
    if not is_named(head):
        raise NoRule("a head is no named goal")
    check_parts(head)
    check_goals(goals)
    return (head, tuple(goals))


def question(goals):
    check_goals(goals)
    return list(goals)


def check_no_keep(rules):
    for told in rules:
        if KEEP in [goal[1] for goal in told[1]]:
            raise HasKeep("a rule has a keep")


# A goal's word with its number of kids.
def word_of(goal):
    return (goal[1], len(goal[2]))


# The rules of each word and number of kids, in their order: their numbers, heads and goals. All
# are told anew, so that marking them makes their unknowns new ones, whatever they were called.
def by_word(rules):
    found = {}
    for place, told in enumerate(rules):
        terms = told_anew([told[0]] + list(told[1]))
        found.setdefault(word_of(terms[0]), []).append((place + 1, terms[0], terms[1:]))
    return found
