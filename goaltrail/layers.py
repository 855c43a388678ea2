"""Layers: words by what they lean on, so that a not looks only at what lies beneath."""

from goaltrail.errors import NotLayered
from goaltrail.rules import NOT, is_named, word_of


# Tuples (one, other, steps): the one leans on the other, and lies so many layers above it at
# least: 1 where it leans by a not, else 0.
def leanings_of(rules):
    found = []
    for told in rules:
        for goal in told[1]:
            if is_named(goal):
                found.append((word_of(told[0]), word_of(goal), 0))
            elif goal[1] == NOT:
                found.append((word_of(told[0]), word_of(goal[2][0]), 1))
    return found


# The shortest row of words from the first to the last one, each leaning on the next; [] where
# there is none.
def row_between(first, last, leanings):
    before = {first: None}
    todo = [first]
    while todo and last not in before:
        upper = todo.pop(0)
        for leaning in leanings:
            if leaning[0] == upper and leaning[1] not in before:
                before[leaning[1]] = upper
                todo.append(leaning[1])
    row = [last] if last in before else []
    while row and row[0] != first:
        row.insert(0, before[row[0]])
    return row


# As the row is the shortest one, no word stands twice in it.
def check_layered(leanings):
    for leaning in leanings:
        if leaning[2] == 1:
            ring = row_between(leaning[1], leaning[0], leanings)
            if ring:
                raise NotLayered(ring)


# Tells whether one was raised. Each is raised only as far as it must be, so the layers become
# the least ones.
def raise_layers(layers, leanings):
    raised = False
    for leaning in leanings:
        least = layers[leaning[1]] + leaning[2]
        if layers[leaning[0]] < least:
            layers[leaning[0]] = least
            raised = True
    return raised


def layers_of(rules):
    leanings = leanings_of(rules)
    check_layered(leanings)
    layers = {}
    for told in rules:
        layers[word_of(told[0])] = 0
    for leaning in leanings:
        layers[leaning[1]] = 0
    while raise_layers(layers, leanings):
        pass
    return layers
