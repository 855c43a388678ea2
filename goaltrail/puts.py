"""Puttings-in: how a term reads by them."""

from goaltrail.errors import Big
from goaltrail.terms import MOST_PARTS, app


def walked(term, puts):
    at = term
    while at[0] == "any" and at[1] in puts:
        at = puts[at[1]]
    return at


# A part is counted ahead of being looked at: few puttings-in can make a term read with more
# parts than could ever be walked.
def parts_up_to(term, puts, most):
    count = 0
    todo = [term]
    while todo:
        if count >= most:
            return most + 1
        count += 1
        part = walked(todo.pop(), puts)
        if part[0] == "app":
            todo.extend(part[2])
    return count


def written_out(term, puts):
    if parts_up_to(term, puts, MOST_PARTS) > MOST_PARTS:
        raise Big(f"a term would have more than {MOST_PARTS} parts")
    return put_in(term, puts)


# No deeper than a term that is known to have few parts.
def put_in(term, puts):
    part = walked(term, puts)
    if part[0] != "app":
        return part
    return app(part[1], [put_in(kid, puts) for kid in part[2]])
