"""Tables of signs: which marks there are, with their ranks and sides."""

from goaltrail.errors import NoSign
from goaltrail.terms import is_mark

FIRST = {
    "=": (15, "none"),
    ":=": (15, "none"),
    "<": (15, "none"),
    "<=": (15, "none"),
    "+": (10, "left"),
    "-": (10, "left"),
    "*": (8, "left"),
    "/": (8, "left"),
    "/:": (8, "left"),
}
SIDES = ("left", "right", "none")
MOST_RANK = 20


def first_signs():
    return dict(FIRST)


# Python takes True for 1, but a truth is no whole number here.
def is_rank(rank):
    return isinstance(rank, int) and not isinstance(rank, bool) and 1 <= rank <= MOST_RANK


def has_other_side(signs, rank, side):
    return any([told[0] == rank and told[1] != side for told in signs.values()])


def with_sign(signs, mark, rank, side):
    if not is_mark(mark):
        raise NoSign(f"{mark!r} is no mark")
    if mark in signs:
        raise NoSign(f"the mark {mark} stands already")
    if not is_rank(rank):
        raise NoSign(f"{rank!r} is no rank")
    if side not in SIDES:
        raise NoSign(f"{side!r} is no side")
    if has_other_side(signs, rank, side):
        raise NoSign(f"the marks of rank {rank} have another side than {side}")
    table = dict(signs)
    table[mark] = (rank, side)
    return table
