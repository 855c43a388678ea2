"""Switches: which rules of one word a goal tries, by its first kid."""


def key_of(term):
    if term[0] == "num":
        return ("num", term[1])
    if term[0] == "app":
        return ("app", term[1], len(term[2]))
    return None


# A head without kids is like one whose first kid is an unknown: it is tried by each goal.
def first_key(head):
    return key_of(head[2][0]) if head[2] else None


def switch_of(heads):
    keys = {}
    others = 0
    whole = 0
    for place, head in enumerate(heads):
        bit = 1 << place
        whole = whole | bit
        key = first_key(head)
        if key is None:
            others = others | bit
            for known in list(keys):
                keys[known] = keys[known] | bit
        else:
            keys[key] = keys.get(key, others) | bit
    return (keys, others, whole)


def picked(switch, key):
    if key is None:
        return switch[2]
    return switch[0].get(key, switch[1])
