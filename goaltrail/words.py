"""How a text is cut into pieces."""

from goaltrail.errors import NoText
from goaltrail.terms import ARROW, FIGURES, GREAT, MARK_SIGNS, SMALL, is_inner

SINGLE_SIGNS = "()[],|"
BELOW_NOUGHT = "~"
MOST_FIGURES = 30


def pieces(text):
    row = []
    at = 0
    while at < len(text):
        if text[at] == " ":
            at += 1
        else:
            piece = piece_at(text, at)
            row.append(piece)
            at += len(piece[1])
    return row


def piece_at(text, at):
    first = text[at]
    if first in SINGLE_SIGNS:
        return ("sign", first)
    if first in MARK_SIGNS:
        return mark_piece(mark_run(text, at))
    if first == BELOW_NOUGHT:
        return below_nought_piece(inner_run(text, at + 1))
    if is_inner(first):
        return inner_piece(inner_run(text, at))
    raise NoText(f"{first!r} begins no piece")


def mark_run(text, at):
    end = at
    while end < len(text) and text[end] in MARK_SIGNS:
        end += 1
    return text[at:end]


def inner_run(text, at):
    end = at
    while end < len(text) and is_inner(text[end]):
        end += 1
    return text[at:end]


def mark_piece(run):
    return ("sign" if run == ARROW else "mark", run)


def inner_piece(run):
    if run[0] in SMALL:
        return ("word", run)
    if run[0] in GREAT:
        return ("name", run)
    if is_number(run):
        return ("num", run)
    raise NoText(f"{run!r} is no number")


def below_nought_piece(run):
    if run == "0" or not is_number(run):
        raise NoText(f"no number below nought stands behind a {BELOW_NOUGHT}")
    return ("num", BELOW_NOUGHT + run)


def is_number(run):
    if not 1 <= len(run) <= MOST_FIGURES or not all([sign in FIGURES for sign in run]):
        return False
    return run == "0" or run[0] != "0"
