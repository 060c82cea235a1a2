"""[24]: live drawings, their deeds, what is refused, what is taken back, and work within."""

import unittest

from handlebends.bends import Bend
from handlebends.errors import InvalidTime, NoMark, Refused
from handlebends.live import Live
from handlebends.marks import raised, with_mark, without_mark
from handlebends.zeros import sign_row

import support

TOUCH, DEEP = Bend(2, [0, 2], [1, -1, 1]), Bend(2, [0, 2], [1, -3, 1])
TENT = Bend(1, [0, 1, 2], [0, 1, 0])


def is_pull(thing, many):
    """Whether any value at all is a pair of a number of one of so many handles and a value."""
    if type(thing) is not tuple or len(thing) != 2 or type(thing[0]) is not int:
        return False
    return 0 <= thing[0] < many and support.values_told(thing[1:]) is not None


class Sketch:
    """What a live drawing is to be: a bend, and those ahead of it, by [24]."""

    def __init__(self, bend):
        self.rows = [bend]

    def pull(self, *pulls):
        bend = self.rows[-1]
        handles = list(bend.handles)
        for at, height in pulls:
            handles[at] = height
        self.rows.append(Bend(bend.degree, bend.marks, handles))
        return sign_row(self.rows[-1])

    def mark(self, time):
        self.rows.append(with_mark(self.rows[-1], time))
        return sign_row(self.rows[-1])

    def unmark(self, time):
        found = without_mark(self.rows[-1], time)
        self.rows += [] if found is None else [found]
        return found is not None

    def undo(self):
        if len(self.rows) > 1:
            self.rows.pop()
            return True
        return False


class Checked(unittest.TestCase):
    def check(self, live, sketch):
        self.assertEqual(live.bend, sketch.rows[-1])
        self.assertEqual(live.signs, sign_row(sketch.rows[-1]))
        self.assertEqual(len(live), len(sketch.rows) - 1)

    def check_refused(self, live, kind, kept, ask):
        """That an error of a kind with such arguments is raised, and that nothing changes then."""
        ahead = live.bend, live.signs, len(live)
        with self.assertRaises(kind) as caught:
            ask()
        self.assertIs(type(caught.exception), kind)
        self.assertEqual(vars(caught.exception), kept)
        self.assertEqual((live.bend, live.signs, len(live)), ahead)


class Deeds(Checked):
    def test_told(self):
        live = Live(TOUCH)
        self.assertEqual((live.bend, live.signs, len(live)), (TOUCH, (1, 0, 1), 0))
        self.assertEqual(live.pull(1, -3), (1, 0, -1, 0, 1))
        self.assertEqual((live.bend, live.signs, len(live)), (DEEP, (1, 0, -1, 0, 1), 1))
        self.assertEqual(live.mark(1), (1, 0, -1, 0, 1))
        self.assertEqual(live.bend, with_mark(DEEP, 1))
        self.assertIs(live.unmark(1), True)
        self.assertEqual((live.bend, len(live)), (DEEP, 3))
        self.assertEqual(live.several([(0, 0), (2, (-1, 2))]), (0, -1))
        self.assertEqual(live.bend.handles, ((0, 1), (-3, 1), (-1, 2)))
        for many in (3, 2, 1, 0):
            self.assertIs(live.undo(), True)
            self.assertEqual(len(live), many)
        self.assertEqual((live.bend, live.signs), (TOUCH, (1, 0, 1)))
        self.assertIs(live.undo(), False)
        self.assertEqual((live.bend, live.signs, len(live)), (TOUCH, (1, 0, 1), 0))

    def test_by_name(self):
        live = Live(bend=TENT)
        self.assertEqual(live.pull(height=(1, 2), at=1), (0, 1, 0))
        self.assertEqual(live.several(pulls=[(1, -1)]), (0, -1, 0))
        with self.assertRaises(InvalidTime):
            live.mark(time=1)
        self.assertIs(live.unmark(time=1), False)
        self.assertEqual(live.mark(time=(1, 2)), (0, -1, 0))
        self.assertEqual(live.within(work=lambda held: held), live)

    def test_a_needed_mark_is_no_deed(self):
        live = Live(TENT)
        self.assertIs(live.unmark(1), False)
        self.assertEqual((live.bend, len(live)), (TENT, 0))
        live.pull(1, 0)
        self.assertIs(live.unmark((1, 1)), True)
        self.assertEqual((live.bend, len(live)), (Bend(1, [0, 2], [0, 0]), 2))
        live.undo()
        self.assertEqual(live.bend, Bend(1, [0, 1, 2], [0, 0, 0]))

    def test_several_of_none_and_of_one_twice(self):
        live = Live(TENT)
        for pulls in ([], ()):
            self.assertEqual(live.several(pulls), (0, 1, 0))
        self.assertEqual((live.bend, len(live)), (TENT, 2))
        self.assertEqual(live.several(((1, 5), (1, -5))), (0, -1, 0))
        self.assertEqual((live.bend, len(live)), (Bend(1, [0, 1, 2], [0, -5, 0]), 3))
        live.pull(1, -5)
        self.assertEqual(len(live), 4)
        for many in (3, 2):
            live.undo()
        self.assertEqual((live.bend, len(live)), (TENT, 2))

    def test_many(self):
        step = 0
        for bend in support.many_bends()[::9]:
            live, sketch = Live(bend), Sketch(bend)
            middle = support.pair_of((support.frac(bend.marks[0]) + 2 * support.frac(bend.marks[-1])) / 3)
            for _ in range(12):
                step = (step * 37 + 11) % 1009
                self.do(live, sketch, step % 6, step // 6, middle)
                self.check(live, sketch)
            while sketch.undo():
                self.assertIs(live.undo(), True)
                self.check(live, sketch)
            self.assertIs(live.undo(), False)

    def do(self, live, sketch, kind, n, middle):
        """One deed with both."""
        size, height = len(sketch.rows[-1]), support.pair_of(support.Fraction(n % 7 - 3, n % 3 + 1))
        if kind < 2:
            self.assertEqual(live.pull(n % size, height), sketch.pull((n % size, height)))
        elif kind == 2:
            pulls = [(n % size, height), (0, 1), (size - 1, (-1, 2))]
            self.assertEqual(live.several(pulls), sketch.pull(*pulls))
        elif kind == 3 and sketch.rows[-1].marks.count(middle) < sketch.rows[-1].degree:
            self.assertEqual(live.mark(middle), sketch.mark(middle))
        elif kind == 4 and len(sketch.rows[-1].marks) > 2:
            time = sketch.rows[-1].marks[1]
            self.assertIs(live.unmark(time), sketch.unmark(time))
        elif kind == 5:
            self.assertIs(live.undo(), sketch.undo())

    def test_arguments_are_not_changed_or_kept(self):
        pulls, bend = [(1, 5), (0, 2)], Bend(1, [0, 1, 2], [0, 1, 0])
        live = Live(bend)
        live.several(pulls)
        self.assertEqual(pulls, [(1, 5), (0, 2)])
        pulls[0] = (1, 9)
        pulls.append((2, 2))
        self.assertEqual(live.bend, Bend(1, [0, 1, 2], [2, 5, 0]))
        self.assertEqual(bend, TENT)
        live.undo()
        self.assertEqual(live.bend, bend)

    def test_two_drawings_of_one_bend(self):
        one, other = Live(TENT), Live(TENT)
        one.pull(0, 7)
        self.assertEqual((other.bend, other.signs, len(other)), (TENT, (0, 1, 0), 0))

    def test_properties_cannot_be_set_and_it_is_not_iterable(self):
        live = Live(TENT)
        for name in ("bend", "signs"):
            self.assertIsInstance(vars(Live)[name], property)
        with self.assertRaises(TypeError):
            list(live)


class WhatIsRefused(Checked):
    def test_pulls(self):
        for bend in (TENT, TOUCH, Bend(0, [0, 1], [5])):
            live = Live(bend)
            live.pull(0, 3)
            many = len(bend)
            for at, height in ((many, 0), (-1, 0), (many + 5, 1), (10 ** 12, 0), (0, (2, 4)), (0, None),
                               (-many, (1, 2))):
                self.check_refused(live, Refused, {"at": many}, lambda: live.pull(at, height))
            for thing in support.no_values():
                self.check_refused(live, Refused, {"at": many}, lambda: live.pull(thing, 0))
                self.check_refused(live, Refused, {"at": many}, lambda: live.pull(0, thing))
                self.check_refused(live, Refused, {"at": many}, lambda: live.pull(thing, thing))
            self.check_refused(live, Refused, {"at": many}, lambda: live.pull((0, 1), 0))
            live.mark((1, 2)) if bend.degree else live.pull(0, 1)
            many = len(live.bend)
            self.check_refused(live, Refused, {"at": many}, lambda: live.pull(many, 1))

    def test_several(self):
        live = Live(TENT)
        live.pull(1, 2)
        good = (0, (5, 2))
        for pulls, at in (
                ([(3, 0)], 0), ([good, (3, 0)], 1), ([good, (-1, 0)], 1), ([good, good, (1, (2, 4))], 2),
                ([good, [1, 0]], 1), ([good, (1,)], 1), ([good, (1, 0, 0)], 1), ([good, ()], 1), ([good, 1], 1),
                ((good, (True, 1)), 1), ((good, (1, True)), 1), ((1, 0), 0), ([good, None, (7, 7)], 1),
                ([good, good, good, "ab"], 3), ([good, ((1, 1), 0)], 1), ([[good]], 0),
                ([good, Bend(0, [0, 1], [0])], 1), ((good, (0, None)), 1)):
            kept = repr(pulls)
            self.check_refused(live, Refused, {"at": at}, lambda: live.several(pulls))
            self.assertEqual(repr(pulls), kept)

    def test_several_any_value_at_all(self):
        live = Live(TENT)
        for thing in support.no_values():
            for pulls, at in (([(thing, 1)], 0), ([(0, 1), (1, 1), (0, thing)], 2)):
                self.check_refused(live, Refused, {"at": at}, lambda: live.several(pulls))
            if not is_pull(thing, 3):
                self.check_refused(live, Refused, {"at": 1}, lambda: live.several([(0, 1), thing]))
        for thing in (None, True, 0, 5, "", "ab", TENT, Refused(1), {}, {(0, 1): 1}):
            self.check_refused(live, Refused, {"at": 0}, lambda: live.several(thing))

    def test_marks(self):
        live = Live(Bend(2, [0, 1, 2], [0, 1, 5, 0]))
        live.mark(1)
        for time in (0, 2, 3, -1, 1, (0, 1), (2001, 1000), *support.no_values()):
            if time != (1, 2):
                self.check_refused(live, InvalidTime, {"time": time}, lambda: live.mark(time))
        for time in (0, 2, 3, (1, 2), (99, 100), *support.no_values()):
            self.check_refused(live, NoMark, {"time": time}, lambda: live.unmark(time))
        thing = [1]
        with self.assertRaises(InvalidTime) as caught:
            live.mark(thing)
        self.assertIs(caught.exception.time, thing)
        flat = Live(Bend(0, [0, 2], [1]))
        self.check_refused(flat, InvalidTime, {"time": 1}, lambda: flat.mark(1))
        self.check_refused(flat, NoMark, {"time": 1}, lambda: flat.unmark(1))


class Trouble(Exception):
    """An error of some work."""


class Within(Checked):
    def drawing(self):
        live, sketch = Live(raised(TOUCH)), Sketch(raised(TOUCH))
        for held in (live, sketch):
            held.pull(1, -2) if held is live else held.pull((1, -2))
            held.mark((1, 2))
        return live, sketch

    def test_what_work_returns(self):
        live, sketch = self.drawing()
        for thing in (None, 7, [1], "x", live, TENT):
            self.assertIs(live.within(lambda held: thing), thing)
        self.assertIs(live.within(lambda held: held), live)
        self.assertEqual(live.within(lambda held: (held.pull(0, -1), len(held), held.bend.handles[0]))[1:],
                         (3, (-1, 1)))
        self.check(live, sketch)

    def test_all_deeds_are_taken_back(self):
        works = (lambda held: held.pull(0, 5), lambda held: held.several([(0, 5), (1, 1)]), lambda held: held.mark(1),
                 lambda held: held.unmark((1, 2)), lambda held: held.undo(),
                 lambda held: [held.undo() for _ in range(9)],
                 lambda held: (held.undo(), held.undo(), held.pull(0, 9), held.mark(1), held.undo(), held.undo()),
                 lambda held: [held.pull(0, k) for k in range(9)])
        for work in works:
            live, sketch = self.drawing()
            for _ in range(2):
                live.within(work)
                self.check(live, sketch)
            while sketch.undo():
                self.assertIs(live.undo(), True)
                self.check(live, sketch)
            self.assertIs(live.undo(), False)

    def test_errors_go_on(self):
        trouble = Trouble("so")

        def work(held):
            held.undo()
            held.pull(0, 7)
            raise trouble

        live, sketch = self.drawing()
        with self.assertRaises(Trouble) as caught:
            live.within(work)
        self.assertIs(caught.exception, trouble)
        self.check(live, sketch)
        for work, kind in ((lambda held: (held.pull(0, 9), held.pull(99, 9)), Refused),
                           (lambda held: (held.undo(), held.mark(0)), InvalidTime),
                           (lambda held: (held.several([]), held.unmark(0)), NoMark),
                           (lambda held: (held.undo(), held.pull(0, 9), [][1]), IndexError)):
            with self.assertRaises(kind):
                live.within(work)
            self.check(live, sketch)
        self.assertIs(live.undo(), True)
        sketch.undo()
        self.check(live, sketch)

    def test_within_within(self):
        live, sketch = self.drawing()
        found = []

        def inner(held):
            held.undo()
            held.undo()
            held.pull(2, 1)
            found.append((len(held), held.bend.handles[2]))
            raise Trouble()

        def outer(held):
            held.pull(2, (1, 3))
            ahead = held.bend, held.signs, len(held)
            with self.assertRaises(Trouble):
                held.within(inner)
            self.assertEqual((held.bend, held.signs, len(held)), ahead)
            held.undo()
            return held.undo()

        self.assertIs(live.within(outer), True)
        self.assertEqual(found, [(2, (1, 1))])
        self.check(live, sketch)

    def test_deeds_behind_it(self):
        live, sketch = self.drawing()
        live.within(lambda held: held.pull(0, 3))
        self.assertEqual(live.pull(0, -3), sketch.pull((0, -3)))
        self.check(live, sketch)
        live.undo(), sketch.undo()
        self.check(live, sketch)


class PassedOn(Checked):
    def test_returned_values(self):
        hill, height = Bend(2, [0, 1], [0, 2, 0]), (2, 7)
        live, sketch = Live(hill), Sketch(hill)
        for _ in range(8):
            height = support.pair_of(support.curve(hill, support.frac(height)))
            self.assertEqual(live.pull(1, height), sketch.pull((1, height)))
            self.assertEqual(live.mark(height), sketch.mark(height))
            self.check(live, sketch)
            self.assertIs(live.unmark(height), sketch.unmark(height))
            self.check(live, sketch)


if __name__ == "__main__":
    unittest.main()
