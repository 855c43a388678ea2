"""Goals of a mark, A = B, A := B, A < B and A <= B, done by puttings-in."""

from goaltrail.ones import made_one
from goaltrail.sums import is_so, reckoned
from goaltrail.terms import num


# What made_one tells; or ("false",) where a comparison isn't so. A sum's fault is refused with Fault.
def done_by_mark(goal, puts):
    left = goal[2][0]
    right = goal[2][1]
    if goal[1] == "=":
        return made_one(left, right, puts)
    if goal[1] == ":=":
        return made_one(left, num(reckoned(right)), puts)
    return ("one", puts) if is_so(goal) else ("false",)
