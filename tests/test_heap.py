import random
import unittest

from goaltrail.heap import Heap
from tests.helper import (
    A, B, assert_refused, called, called_within, count_parts, n, names_in, nested, plainly_put, slowly_joined, t,
    term_of, v,
)


def built(heap, term, boxes):
    """The address of a term in a heap; boxes has the free box of each unknown that was met."""
    if term[0] == "num":
        return heap.number(term[1])
    if term[0] == "any":
        if term[1] not in boxes:
            boxes[term[1]] = heap.free()
        return boxes[term[1]]
    return heap.app(term[1], [built(heap, kid, boxes) for kid in term[2]])


def box_names(boxes):
    return {name: f"B{at}" for name, at in boxes.items()}


def twice_each(heap, many):
    """A free box, and boxes each of which leads, by a binding, to twice the next one; the last is first."""
    ends = [heap.free()]
    for again in range(many):
        at = heap.free()
        heap.one(at, heap.app("f", [ends[-1], ends[-1]]))
        ends.append(at)
    ends.reverse()
    return ends


class Boxes(unittest.TestCase):
    def test_addresses_from_nought(self):
        heap = Heap()
        self.assertEqual([heap.free(), heap.number(5), heap.app("a", []), heap.app("f", [0, 1])], [0, 1, 2, 3])
        self.assertEqual(Heap().number(-3), 0)

    def test_each_kind(self):
        heap = Heap()
        free, number, word = heap.free(), heap.number(-5), heap.app("a", [])
        pair = heap.app("[|]", (number, free))
        self.assertEqual(heap.look(free), ("free", free))
        self.assertEqual(heap.look(number), ("num", -5))
        self.assertEqual(heap.look(word), ("app", "a", ()))
        self.assertEqual(heap.look(pair), ("app", "[|]", (number, free)))

    def test_two_heaps_are_apart(self):
        one, other = Heap(), Heap()
        one.free()
        one.one(0, one.number(1))
        self.assertEqual(other.free(), 0)
        self.assertEqual(other.look(0), ("free", 0))

    def test_kids_are_the_addresses_handed_in(self):
        heap = Heap()
        free = heap.free()
        at = heap.app("f", [free, free])
        heap.one(free, heap.number(3))
        self.assertEqual(heap.look(at), ("app", "f", (free, free)))
        self.assertIs(heap.look(at)[2].__class__, tuple)

    def test_kids_handed_in_as_a_list_that_is_changed_behind(self):
        heap = Heap()
        kids = [heap.number(1), heap.number(2)]
        at = heap.app("f", kids)
        kids[0] = 1
        kids.append(0)
        self.assertEqual(heap.look(at), ("app", "f", (0, 1)))
        self.assertEqual(heap.term(at), t("f", n(1), n(2)))

    def test_look_through_several_bindings(self):
        heap = Heap()
        frees = [heap.free() for again in range(6)]
        for left, right in zip(frees, frees[1:]):
            self.assertIs(heap.one(left, right), True)
        for at in frees:
            self.assertEqual(heap.look(at), ("free", frees[-1]))
        number = heap.number(8)
        heap.one(frees[2], number)
        for at in frees:
            self.assertEqual(heap.look(at), ("num", 8))

    def test_a_long_row_of_bindings(self):
        heap = Heap()
        frees = [heap.free() for again in range(3000)]
        for left, right in zip(frees, frees[1:]):
            heap.one(left, right)
        self.assertEqual(heap.look(frees[0]), ("free", frees[-1]))
        self.assertEqual(called_within(60, lambda: heap.term(frees[0])), v(f"B{frees[-1]}"))


class MadeOne(unittest.TestCase):
    def pair_of(self, one, other):
        heap, boxes = Heap(), {}
        return heap, boxes, built(heap, term_of(one), boxes), built(heap, term_of(other), boxes)

    def assert_told(self, one, other, told):
        with self.subTest(one=one, other=other):
            heap, boxes, left, right = self.pair_of(one, other)
            self.assertIs(heap.one(left, right), told)
            if told:
                self.assertEqual(heap.term(left), heap.term(right))

    def test_of_two_free_boxes_the_right_one_is_led_to(self):
        for swap in (False, True):
            heap = Heap()
            left, right = (heap.free(), heap.free())[::-1 if swap else 1]
            self.assertIs(heap.one(left, right), True)
            self.assertEqual(heap.look(left), ("free", right))
            self.assertEqual(heap.look(right), ("free", right))

    def test_the_same_box(self):
        heap = Heap()
        free = heap.free()
        self.assertIs(heap.one(free, free), True)
        self.assertEqual(heap.look(free), ("free", free))
        other = heap.free()
        heap.one(free, other)
        self.assertIs(heap.one(other, free), True)
        self.assertIs(heap.one(free, other), True)
        self.assertEqual(heap.look(free), ("free", other))
        at = heap.app("f", [free])
        self.assertIs(heap.one(at, at), True)

    def test_what_becomes_one(self):
        for one, other in (("a", "a"), ("5", "5"), ("X", "a"), ("a", "X"), ("X", "5"), ("5", "X"), ("X", "f(Y)"),
                           ("f(Y)", "X"), ("f(X, b)", "f(a, Y)"), ("f(X, X)", "f(Y, a)"), ("[]", "[]"),
                           ("[X | Y]", "[1, 2]"), ("f(X, g(X))", "f(Y, Y1)"), ("1 + X", "Y + 2"),
                           ("f(X, Y, X)", "f(Y, Z, a)")):
            self.assert_told(one, other, True)

    def test_what_parts(self):
        for one, other in (("a", "b"), ("5", "6"), ("5", "a"), ("a", "5"), ("f(a)", "f(a, a)"), ("f(a)", "g(a)"),
                           ("f(X, X)", "f(a, b)"), ("[]", "[a]"), ("1 + 2", "1 - 2"), ("f(a, X)", "f(b, X)"),
                           ("0", "[]"), ("f(X, Y, X)", "f(Y, a, b)")):
            self.assert_told(one, other, False)

    def test_what_makes_a_ring(self):
        for one, other in (("X", "f(X)"), ("f(X)", "X"), ("f(X, Y)", "f(g(Y), g(X))"), ("f(X, Y, X)", "f(Y, g(Z), Z)"),
                           ("[X | Y]", "Y")):
            self.assert_told(one, other, False)

    def test_what_was_bound_stays_where_it_fails(self):
        heap, boxes, left, right = self.pair_of("f(X, g(Y), a, Z)", "f(1, g(2), b, 3)")
        mark = heap.mark()
        self.assertIs(heap.one(left, right), False)
        self.assertEqual([heap.look(boxes[name])[0] for name in "XYZ"], ["num", "num", "free"])
        heap.back_to(mark)
        self.assertEqual([heap.look(boxes[name])[0] for name in "XYZ"], ["free"] * 3)
        heap, boxes, left, right = self.pair_of("f(X, Y, Z)", "f(1, g(Y), 3)")
        self.assertIs(heap.one(left, right), False)
        self.assertEqual([heap.look(boxes[name])[0] for name in "XYZ"], ["num", "free", "free"])

    def some_term(self, source, depth):
        pick = source.randrange(10) if depth else source.randrange(7)
        if pick < 4:
            return v(source.choice("VWXYZ"))
        if pick < 7:
            return source.choice((A, B, n(0), n(1)))
        return t(source.choice("fg"), *[self.some_term(source, depth - 1) for again in range(source.randrange(1, 4))])

    def test_beside_a_slow_one(self):
        source = random.Random(61)
        ends = {}
        for again in range(4000):
            heap, boxes, puts = Heap(), {}, {}
            for more in range(source.randrange(1, 4)):
                one, other = (self.some_term(source, 3) for both in "12")
                if count_parts(plainly_put(t("f", one, other), puts)) > 40:
                    continue
                told = slowly_joined(one, other, puts)
                ends[told and told[0]] = ends.get(told and told[0], 0) + 1
                done = heap.one(built(heap, one, boxes), built(heap, other, boxes))
                self.assertIs(done, told is None)
                for name in boxes:
                    term = plainly_put(v(name), puts)
                    for met in names_in(term):
                        self.assertIn(met, boxes)
                    if count_parts(term) <= 40:
                        self.assertEqual(heap.term(boxes[name]), called(term, box_names(boxes)))
        self.assertGreater(min(ends.values()), 150, ends)
        self.assertEqual(set(ends), {None, "part", "ring"})


class Marks(unittest.TestCase):
    def test_going_back_frees_and_lets_go(self):
        heap = Heap()
        early, other = heap.free(), heap.free()
        heap.one(other, heap.number(1))
        mark = heap.mark()
        made = heap.number(7)
        heap.one(early, made)
        heap.app("f", [early, made])
        self.assertIsNone(heap.back_to(mark))
        self.assertEqual(heap.look(early), ("free", early))
        self.assertEqual(heap.look(other), ("num", 1))
        self.assertEqual(heap.free(), made)
        self.assertEqual(heap.look(made), ("free", made))

    def test_where_nothing_was_done(self):
        heap = Heap()
        heap.back_to(heap.mark())
        self.assertEqual(heap.free(), 0)
        heap.back_to(heap.mark())
        self.assertEqual(heap.look(0), ("free", 0))

    def test_more_than_once(self):
        heap = Heap()
        at = heap.free()
        mark = heap.mark()
        for number in range(5):
            new = heap.number(number)
            self.assertEqual(new, 1)
            self.assertIs(heap.one(at, new), True)
            self.assertEqual(heap.look(at), ("num", number))
            heap.back_to(mark)
            self.assertEqual(heap.look(at), ("free", at))
        heap.back_to(mark)
        self.assertEqual(heap.free(), 1)

    def test_marks_within_marks(self):
        heap = Heap()
        frees = [heap.free() for again in range(3)]
        marks = []
        for at in frees:
            marks.append(heap.mark())
            heap.one(at, heap.number(at))
        heap.back_to(marks[2])
        self.assertEqual([heap.look(at)[0] for at in frees], ["num", "num", "free"])
        heap.back_to(marks[1])
        self.assertEqual([heap.look(at)[0] for at in frees], ["num", "free", "free"])
        inner = heap.mark()
        heap.one(frees[1], frees[2])
        heap.back_to(inner)
        self.assertEqual(heap.look(frees[1]), ("free", frees[1]))
        heap.back_to(marks[0])
        self.assertEqual([heap.look(at)[0] for at in frees], ["free"] * 3)

    def test_a_box_bound_ahead_of_the_mark_to_one_bound_behind_it(self):
        heap = Heap()
        first, second = heap.free(), heap.free()
        heap.one(first, second)
        mark = heap.mark()
        heap.one(first, heap.number(4))
        self.assertEqual(heap.look(first), ("num", 4))
        heap.back_to(mark)
        self.assertEqual(heap.look(first), ("free", second))

    def test_by_chance(self):
        source = random.Random(62)
        heap, frees, stack = Heap(), [], []
        for again in range(3000):
            pick = source.randrange(12)
            if pick < 4 or len(frees) < 2:
                frees.append(heap.free())
            elif pick < 9:
                heap.one(source.choice(frees), source.choice(frees + [heap.number(source.randrange(3))]))
            elif pick < 11:
                stack.append((heap.mark(), list(frees), [heap.look(at) for at in frees]))
            elif stack:
                place = source.randrange(len(stack))
                mark, frees, looks = stack[place]
                frees = list(frees)
                stack = stack[:place + 1]
                heap.back_to(mark)
                self.assertEqual([heap.look(at) for at in frees], looks)


class PartsAndTerms(unittest.TestCase):
    def test_terms(self):
        for text in ("a", "5", "~5", "[]", "f(a, 1)", "[1, 2, [a]]", "1 + 2 * f(a)"):
            heap = Heap()
            self.assertEqual(heap.term(built(heap, term_of(text), {})), term_of(text))

    def test_unknowns_are_called_by_their_addresses(self):
        heap = Heap()
        for again in range(7):
            heap.number(1)
        free, other = heap.free(), heap.free()
        self.assertEqual(heap.term(free), v("B7"))
        at = heap.app("f", [free, other, free])
        self.assertEqual(heap.term(at), t("f", v("B7"), v("B8"), v("B7")))
        heap.one(free, other)
        self.assertEqual(heap.term(at), t("f", v("B8"), v("B8"), v("B8")))

    def test_forty_parts_and_forty_one(self):
        heap = Heap()
        at = built(heap, nested(40), {})
        self.assertEqual(heap.term(at), nested(40))
        self.assertEqual(heap.parts(at, 40), 40)
        more = heap.app("f", [at])
        assert_refused(self, "Big", heap.term, more)
        self.assertEqual(heap.parts(more, 40), 41)

    def test_forty_parts_through_bindings(self):
        heap = Heap()
        free = heap.free()
        at = heap.app("f", [free, free, free])
        heap.one(free, built(heap, nested(13), {}))
        self.assertEqual(heap.term(at), t("f", nested(13), nested(13), nested(13)))
        assert_refused(self, "Big", heap.term, heap.app("f", [at]))

    def test_parts_up_to_a_bound(self):
        heap = Heap()
        at = built(heap, term_of("f(a, g(X, 1), [b])"), {})
        for most in range(20):
            self.assertEqual(heap.parts(at, most), min(8, most + 1))
        self.assertEqual(heap.parts(heap.free(), 1), 1)
        self.assertEqual(heap.parts(heap.free(), 0), 1)

    def test_boxes_that_lead_to_twice_the_next_one(self):
        heap = Heap()
        ends = twice_each(heap, 200)
        for most in (0, 1, 40, 1000):
            self.assertEqual(heap.parts(ends[0], most), most + 1)
        assert_refused(self, "Big", heap.term, ends[0])
        self.assertEqual(heap.parts(ends[-5], 40), 31)
        self.assertEqual(count_parts(heap.term(ends[-5])), 31)
        assert_refused(self, "Big", heap.term, ends[-6])

    def test_deep_boxes(self):
        heap = Heap()
        at = heap.number(1)
        for again in range(3000):
            at = heap.app("f", [at])
        self.assertEqual(called_within(60, lambda: heap.parts(at, 5000)), 3001)
        with self.assertRaises(ValueError):
            called_within(60, lambda: heap.term(at))


class LongOnes(unittest.TestCase):
    """Making one ends also where boxes read with more parts than could ever be walked."""

    def test_rows_of_twice_the_next_one(self):
        heap = Heap()
        one, other = twice_each(heap, 150), twice_each(heap, 150)
        self.assertIs(called_within(60, lambda: heap.one(one[0], other[0])), True)
        self.assertEqual(heap.look(one[-1]), ("free", other[-1]))
        self.assertIs(heap.one(one[3], other[3]), True)
        self.assertIs(heap.one(one[0], other[0]), True)

    def test_where_they_part_at_the_end(self):
        heap = Heap()
        one, other = twice_each(heap, 150), twice_each(heap, 150)
        heap.one(one[-1], heap.number(1))
        heap.one(other[-1], heap.number(2))
        self.assertIs(heap.one(one[0], other[0]), False)

    def test_a_ring_far_within(self):
        heap = Heap()
        ends = twice_each(heap, 150)
        self.assertIs(heap.one(ends[-1], ends[0]), False)
        self.assertIs(heap.one(ends[0], ends[-1]), False)
        self.assertIs(heap.one(ends[-1], heap.free()), True)

    def test_bindings_that_double_what_they_bind(self):
        heap = Heap()
        lefts, rights = [heap.free() for k in range(101)], [heap.free() for k in range(101)]
        left, right = heap.number(0), heap.number(0)
        for k in range(100):
            left = heap.app("f", [lefts[k], heap.app("g", [rights[k + 1], rights[k + 1]]), left])
            right = heap.app("f", [heap.app("g", [lefts[k + 1], lefts[k + 1]]), rights[k], right])
        self.assertIs(heap.one(left, right), True)
        self.assertIs(heap.one(lefts[0], rights[0]), True)
        self.assertEqual(heap.parts(lefts[0], 4000), 4001)

    def test_deep_boxes(self):
        heap = Heap()
        one, other = heap.free(), heap.number(1)
        kept = one
        for again in range(2000):
            one, other = heap.app("f", [one]), heap.app("f", [other])
        self.assertIs(called_within(60, lambda: heap.one(one, other)), True)
        self.assertEqual(heap.look(kept), ("num", 1))


if __name__ == "__main__":
    unittest.main()
