"""Sums, and the faults that are met in them."""

from goaltrail.errors import Fault

SUM_MARKS = ("+", "-", "*", "/", "/:")


def reckoned(term):
    if term[0] == "num":
        return term[1]
    if term[0] == "any":
        raise Fault("open")
    if term[1] not in SUM_MARKS:
        raise Fault("kind")
    left = reckoned(term[2][0])
    right = reckoned(term[2][1])
    return checked_near(by_mark(term[1], left, right))


def by_mark(mark, left, right):
    if mark == "+":
        return left + right
    if mark == "-":
        return left - right
    if mark == "*":
        return left * right
    if right == 0:
        raise Fault("nought")
    return left // right if mark == "/" else left % right


# Thirty figures are the most that a number may have.
def checked_near(n):
    if abs(n) >= 10 ** 30:
        raise Fault("far")
    return n


# Of a goal A < B or A <= B: whether it is so.
def is_so(goal):
    left = reckoned(goal[2][0])
    right = reckoned(goal[2][1])
    return left < right or (goal[1] == "<=" and left == right)
