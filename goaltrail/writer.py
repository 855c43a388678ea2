"""How a term is shown as a text."""

from goaltrail.terms import EMPTY_LIST, is_pair, items_of


# Without recursion: what is still to be shown, texts and terms, lies on a list, the first one last.
def shown(term, signs):
    texts = []
    todo = [term]
    while todo:
        thing = todo.pop()
        if isinstance(thing, str):
            texts.append(thing)
        else:
            row = spread(thing, signs)
            row.reverse()
            todo.extend(row)
    return "".join(texts)


# A term as a row of texts and of terms within it that are still to be shown.
def spread(term, signs):
    if term[0] == "num":
        return [number_shown(term[1])]
    if term[0] == "any":
        return [term[1]]
    if is_pair(term):
        return list_spread(term)
    if term[1] in signs:
        return mark_spread(term, signs)
    return word_spread(term)


def number_shown(n):
    return "~" + str(-n) if n < 0 else str(n)


def parted(terms):
    row = []
    for term in terms:
        if row:
            row.append(", ")
        row.append(term)
    return row


def list_spread(term):
    found = items_of(term)
    row = ["["] + parted(found[0])
    if found[1] != EMPTY_LIST:
        row.extend([" | ", found[1]])
    return row + ["]"]


def word_spread(term):
    if not term[2]:
        return [term[1]]
    return [term[1], "("] + parted(term[2]) + [")"]


def mark_spread(term, signs):
    mark = term[1]
    left = beside(term[2][0], signs[mark], "left", signs)
    right = beside(term[2][1], signs[mark], "right", signs)
    return left + [f" {mark} "] + right


# A kid that stands at this side of a mark, in brackets where it would not be read there.
def beside(kid, told, side, signs):
    rank = rank_of(kid, signs)
    if rank < told[0] or (rank == told[0] and told[1] == side):
        return [kid]
    return ["(", kid, ")"]


def rank_of(term, signs):
    if term[0] == "app" and term[1] in signs:
        return signs[term[1]][0]
    return 0
