"""Two terms made one by puttings-in, and a term matched to another one."""

from goaltrail.puts import walked
from goaltrail.switches import key_of


# The kids of two apps that are being made one, and how many pairs of them were taken.
class Row:
    def __init__(self, lefts, rights):
        self.lefts = lefts
        self.rights = rights
        self.taken = 0


# Works within the puttings-in that it is given, and notes the names it puts in for, so that
# whoever owns them can take them out again.
class Joining:
    def __init__(self, puts, noted):
        self.puts = puts
        self.noted = noted
        self.rows = []
        self.met = {}

    # None where the two are one then, else what is told of the place. Rows lie on a list, as
    # puttings-in may lead deeper than calls should.
    def join_terms(self, one, other):
        self.rows = [Row((one,), (other,))]
        told = None
        while self.rows and told is None:
            row = self.rows[-1]
            if row.taken == len(row.lefts):
                self.rows.pop()
            else:
                row.taken += 1
                told = self.join_place(row.lefts[row.taken - 1], row.rights[row.taken - 1])
        return told

    def join_place(self, one, other):
        left = walked(one, self.puts)
        right = walked(other, self.puts)
        if left == right:
            return None
        if left[0] == "any":
            return self.put_for(left[1], right)
        if right[0] == "any":
            return self.put_for(right[1], left)
        if key_of(left) != key_of(right):
            return ("part", self.path(), key_of(left), key_of(right))
        self.begin_kids(left, right)
        return None

    def put_for(self, name, term):
        if stands_within(name, term, self.puts):
            return ("ring", self.path(), name)
        self.puts[name] = term
        self.noted.append(name)
        return None

    # Two apps that were made one already read as the same: without this, few puttings-in could
    # lead to more places than could ever be gone to.
    def begin_kids(self, left, right):
        if (left, right) not in self.met:
            self.met[(left, right)] = True
            self.rows.append(Row(left[2], right[2]))

    # The first row has just the whole terms.
    def path(self):
        return tuple([row.taken - 1 for row in self.rows[1:]])


# Each unknown on the way is looked into once, however often it stands there.
def stands_within(name, term, puts):
    seen = {}
    todo = [term]
    while todo:
        part = todo.pop()
        if part == ("any", name):
            return True
        if part[0] == "app":
            todo.extend(part[2])
        elif part[0] == "any" and part[1] in puts and part[1] not in seen:
            seen[part[1]] = True
            todo.append(puts[part[1]])
    return False


def made_one(one, other, puts):
    new = dict(puts)
    told = Joining(new, []).join_terms(one, other)
    return ("one", new) if told is None else told


def matched(one, other, puts):
    new = dict(puts)
    todo = [(one, other)]
    while todo:
        pair = todo.pop()
        if pair[0][0] == "any":
            if new.setdefault(pair[0][1], pair[1]) != pair[1]:
                return None
        elif key_of(pair[0]) != key_of(pair[1]):
            return None
        elif pair[0][0] == "app":
            kids = list(zip(pair[0][2], pair[1][2]))
            kids.reverse()
            todo.extend(kids)
    return new
