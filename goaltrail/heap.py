"""A heap of boxes, that can be bound to one another and set free again."""

from goaltrail.errors import Big
from goaltrail.switches import key_of
from goaltrail.terms import MOST_PARTS, app, num, unknown

FREE = ("free",)


# A box is FREE, ("num", n), ("app", SIGN, kids' addresses) or, where it was bound, ("to", address).
class Heap:
    def __init__(self):
        self.boxes = []
        self.trail = []

    def made(self, box):
        self.boxes.append(box)
        return len(self.boxes) - 1

    def free(self):
        return self.made(FREE)

    def number(self, n):
        return self.made(("num", n))

    def app(self, sign, kids):
        return self.made(("app", sign, tuple(kids)))

    def end_of(self, at):
        here = at
        while self.boxes[here][0] == "to":
            here = self.boxes[here][1]
        return here

    def look(self, at):
        here = self.end_of(at)
        return ("free", here) if self.boxes[here] == FREE else self.boxes[here]

    # Pairs lie on a list, as boxes may lead deeper than calls should. A pair that was met is one
    # already: without this, few boxes could lead to more pairs than could ever be gone to.
    def one(self, at, other):
        met = {}
        todo = [(at, other)]
        while todo:
            told = todo.pop()
            pair = (self.end_of(told[0]), self.end_of(told[1]))
            if pair[0] != pair[1] and pair not in met:
                met[pair] = True
                kids = self.kids_of_one(pair[0], pair[1])
                if kids is None:
                    return False
                todo.extend(list(reversed(kids)))
        return True

    # The pairs of kids that are then still to be made one; None where the two can't be.
    def kids_of_one(self, left, right):
        one = self.boxes[left]
        other = self.boxes[right]
        if one == FREE:
            return self.bind(left, right)
        if other == FREE:
            return self.bind(right, left)
        if key_of(one) != key_of(other):
            return None
        return list(zip(one[2], other[2])) if one[0] == "app" else []

    def bind(self, at, other):
        if self.stands_within(at, other):
            return None
        self.boxes[at] = ("to", other)
        self.trail.append(at)
        return []

    # Each box is looked into once, however often it stands there.
    def stands_within(self, at, other):
        seen = {}
        todo = [other]
        while todo:
            here = self.end_of(todo.pop())
            if here == at:
                return True
            if here not in seen and self.boxes[here][0] == "app":
                todo.extend(self.boxes[here][2])
            seen[here] = True
        return False

    def mark(self):
        return (len(self.boxes), len(self.trail))

    def back_to(self, mark):
        while len(self.trail) > mark[1]:
            self.boxes[self.trail.pop()] = FREE
        while len(self.boxes) > mark[0]:
            self.boxes.pop()

    # A part is counted ahead of being looked at, as there may be more than could ever be walked.
    def parts(self, at, most):
        count = 0
        todo = [at]
        while todo:
            if count >= most:
                return most + 1
            count += 1
            box = self.look(todo.pop())
            if box[0] == "app":
                todo.extend(box[2])
        return count

    def term(self, at):
        if self.parts(at, MOST_PARTS) > MOST_PARTS:
            raise Big(f"a term would have more than {MOST_PARTS} parts")
        return self.read_out(at)

    # No deeper than a term that is known to have few parts.
    def read_out(self, at):
        box = self.look(at)
        if box[0] == "num":
            return num(box[1])
        if box[0] == "app":
            return app(box[1], [self.read_out(kid) for kid in box[2]])
        address = box[1]
        return unknown(f"B{address}")
