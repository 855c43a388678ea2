"""The unknowns of terms, and terms with their unknowns called otherwise."""

from goaltrail.terms import app, unknown


def unknowns_of(terms):
    found = {}
    todo = list(reversed(terms))
    while todo:
        part = todo.pop()
        if part[0] == "any":
            found[part[1]] = True
        elif part[0] == "app":
            todo.extend(list(reversed(part[2])))
    return list(found)


# All at once: a new name may be the old one of another unknown.
def renamed(term, names):
    if term[0] == "any":
        return unknown(names[term[1]])
    if term[0] == "app":
        return app(term[1], [renamed(kid, names) for kid in term[2]])
    return term


def told_anew(terms):
    names = {}
    for name in unknowns_of(terms):
        number = len(names) + 1
        names[name] = f"U{number}"
    return [renamed(term, names) for term in terms]


def alike(one, other):
    return told_anew([one]) == told_anew([other])


def marked(term, n):
    names = {}
    for name in unknowns_of([term]):
        names[name] = f"{name}.{n}"
    return renamed(term, names)
