"""[23]: movers, how far they are apart, whether they come too near, and how often they meet."""

import unittest
from fractions import Fraction

from handlebends.bends import Bend, value
from handlebends.errors import Unlike
from handlebends.marks import raised, with_mark
from handlebends.movers import Mover, apart, meetings, nearer_at, never_nearer
from handlebends.pieces import from_pieces, pieces
from handlebends.sums import plus

import support
from zeros_by_handles import Zeros, drawn

NOUGHT, ONE = Bend(0, [0, 2], [0]), Bend(0, [0, 2], [1])
LINE, TENT = Bend(1, [0, 2], [0, 2]), Bend(1, [0, 1, 2], [0, 1, 0])
RUNS, STANDS = Mover(LINE, NOUGHT), Mover(ONE, ONE)


def standing(x, y, marks=(0, 2)):
    """A mover that stands still."""
    return Mover(Bend(0, marks, [x]), Bend(0, marks, [y]))


def many_movers():
    """Movers over one stretch, of the degrees 0 to 2."""
    some = [bend for bend in support.over_one_stretch(0, 2, 3) if bend.degree <= 2]
    found = [Mover(x, y) for x, y in zip(some, some[3:] + some[:3])]
    found += [RUNS, STANDS, standing(0, 0), Mover(LINE, TENT), Mover(TENT, LINE), Mover(TENT, TENT)]
    # One that is at the same places as another one for a while, and at one time, and at both ends.
    found += [Mover(from_pieces([(0, 1, [0, 1]), (1, 2, [1])]), NOUGHT), Mover(Bend(2, [0, 2], [0, 2, 2]), NOUGHT)]
    return found


def place(mover, t):
    """Where a mover is at a time, by [6]."""
    return support.curve(mover.x, t), support.curve(mover.y, t)


def square(one, other, t):
    """The square of the distance of two movers at a time."""
    return sum((a - b) ** 2 for a, b in zip(place(one, t), place(other, t)))


def squares(one, other):
    """The bend of the square of the distance, by the powers of the pieces."""
    bends = one.x, one.y, other.x, other.y
    row = sorted({support.frac(mark) for bend in bends for mark in bend.marks})
    found = []
    for start, end in zip(row, row[1:]):
        a, b, c, d = ([support.frac(worth) for worth in powers] for bend in bends for low, high, powers in pieces(bend)
                      if support.frac(low) <= start and end <= support.frac(high))
        together = [Fraction(0)] * 9
        for early, late in ((a, c), (b, d)):
            gap = [(early + [0] * 5)[k] - (late + [0] * 5)[k] for k in range(5)]
            for i, k in ((i, k) for i in range(5) for k in range(5)):
                together[i + k] += gap[i] * gap[k]
        found.append((start, end, together))
    return drawn(*found)


class Movers(unittest.TestCase):
    def test_attributes_are_the_arguments(self):
        x, y = Bend(1, [0, 1, 2], [3, 4, 5]), raised(TENT)
        mover = Mover(x, y)
        self.assertIs(mover.x, x)
        self.assertIs(mover.y, y)
        self.assertIs(Mover(y=y, x=x).y, y)

    def test_stretches_of_one_mover(self):
        for marks in ([0, 3], [1, 2], [0, (3, 2)], [-1, 2], [2, 4]):
            for x, y in ((TENT, Bend(0, marks, [0])), (Bend(0, marks, [0]), TENT)):
                with self.assertRaises(Unlike) as caught:
                    Mover(x, y)
                self.assertIs(type(caught.exception), Unlike)
        self.assertEqual(Mover(TENT, Bend(0, [0, (1, 3), 2][::2], [1])).y.marks, ((0, 1), (2, 1)))

    def test_stretches_of_two_movers(self):
        for marks in ([0, 3], [1, 2], [0, (3, 2)], [-1, 2], [2, 4]):
            for one, other in ((RUNS, standing(0, 0, marks)), (standing(5, 5, marks), RUNS)):
                for ask in (apart, meetings, lambda p, q: never_nearer(p, q, 1), lambda p, q: nearer_at(p, q, 0)):
                    with self.assertRaises(Unlike) as caught:
                        ask(one, other)
                    self.assertIs(type(caught.exception), Unlike)

    def test_not_iterable_and_not_changed(self):
        with self.assertRaises(TypeError):
            list(RUNS)
        kept = [str(bend) for bend in (RUNS.x, RUNS.y, STANDS.x, STANDS.y)]
        apart(RUNS, STANDS), meetings(RUNS, STANDS), never_nearer(RUNS, STANDS, 1), nearer_at(RUNS, STANDS, 2)
        self.assertEqual([str(bend) for bend in (RUNS.x, RUNS.y, STANDS.x, STANDS.y)], kept)


class Apart(unittest.TestCase):
    def test_told(self):
        self.assertEqual(apart(RUNS, STANDS), Bend(2, [0, 2], [2, 0, 2]))
        self.assertEqual(apart(other=STANDS, one=RUNS), Bend(2, [0, 2], [2, 0, 2]))
        self.assertEqual(apart(RUNS, RUNS), NOUGHT)
        self.assertEqual(apart(standing(0, 0), standing(3, 4)), Bend(0, [0, 2], [25]))
        self.assertEqual(apart(standing(0, 0), Mover(NOUGHT, TENT)),
                         from_pieces([(0, 1, [0, 0, 1]), (1, 2, [4, -4, 1])]))

    def test_many(self):
        some = many_movers()
        for at, one in enumerate(some):
            for other in some[at % 3::3]:
                found = apart(one, other)
                self.assertTrue(support.in_least_form(found))
                self.assertEqual(found, squares(one, other))
                for t in support.asked_times(found.marks)[::3]:
                    self.assertEqual(support.curve(found, t), square(one, other, t))


class Nearer(unittest.TestCase):
    def check(self, one, other, distance, wanted):
        self.assertIs(never_nearer(one, other, distance), wanted, distance)
        time = nearer_at(one, other, distance)
        if wanted:
            self.assertIsNone(time)
        else:
            self.assertTrue(support.is_pair(time))
            t = support.frac(time)
            self.assertTrue(support.frac(one.x.marks[0]) <= t <= support.frac(one.x.marks[-1]))
            self.assertLess(square(one, other, t), support.frac(distance) ** 2)

    def test_told(self):
        for one, other, distance, wanted in (
                (RUNS, STANDS, 1, True), (RUNS, STANDS, (11, 10), False), (RUNS, STANDS, (9, 10), True),
                (RUNS, STANDS, 0, True), (RUNS, STANDS, (1000000001, 1000000000), False), (RUNS, RUNS, 0, True),
                (RUNS, RUNS, (1, 999999999), False), (standing(0, 0), standing(3, 4), 5, True),
                (standing(0, 0), standing(3, 4), (5001, 1000), False), (standing(1, 0), RUNS, (1, 9999), False),
                # Only at an end, only at a kink, and never as near as the root of 2 itself, which is no fraction.
                (standing(0, 0), Mover(ONE, TENT), 1, True), (standing(0, 0), Mover(ONE, TENT), (1001, 1000), False),
                (standing(3, 1), Mover(LINE, ONE), 1, True), (standing(3, 1), Mover(LINE, ONE), (1001, 1000), False),
                (standing(0, 2), Mover(NOUGHT, TENT), 1, True),
                (standing(0, 2), Mover(NOUGHT, TENT), (1001, 1000), False),
                (standing(0, 0), standing(1, 1), (1414213562, 1000000000), True),
                (standing(0, 0), standing(1, 1), (1414213563, 1000000000), False)):
            self.check(one, other, support.pair_of(support.frac(distance)), wanted)
            self.check(other, one, support.pair_of(support.frac(distance)), wanted)

    def test_many(self):
        some, kinds = many_movers(), []
        for at, one in enumerate(some):
            for other in some[at % 17::17]:
                for distance in (0, (1, 9999), (1, 2), 1, 3):
                    gap = squares(one, other)
                    low = Bend(0, [0, 2], [support.pair_of(-support.frac(distance) ** 2)])
                    wanted = -1 not in Zeros(plus(gap, low)).signs()
                    self.check(one, other, distance, wanted)
                    kinds.append(wanted)
        self.assertGreater(min(kinds.count(True), kinds.count(False)), 20)

    def test_by_name(self):
        self.assertIs(never_nearer(distance=1, other=STANDS, one=RUNS), True)
        self.assertIsNone(nearer_at(distance=1, other=STANDS, one=RUNS))


class Meetings(unittest.TestCase):
    def test_told(self):
        early = Mover(from_pieces([(0, 1, [0, 1]), (1, 2, [1])]), NOUGHT)
        for one, other, wanted in (
                (RUNS, STANDS, 0), (RUNS, standing(1, 0), 1), (RUNS, standing(0, 0), 1), (RUNS, standing(2, 0), 1),
                (RUNS, standing(3, 0), 0), (RUNS, RUNS, None), (RUNS, Mover(with_mark(raised(LINE), 1), NOUGHT), None),
                (RUNS, early, None), (early, standing(1, 0), None), (early, standing(0, 0), 1), (early, STANDS, 0),
                (RUNS, Mover(Bend(2, [0, 2], [0, 0, 2]), NOUGHT), 2), (Mover(LINE, LINE), Mover(LINE, TENT), None),
                (Mover(LINE, LINE), Mover(TENT, TENT), None), (Mover(ONE, TENT), standing(1, (1, 2)), 2),
                (Mover(ONE, TENT), standing(1, 1), 1), (Mover(ONE, TENT), standing(1, 0), 2),
                (Mover(ONE, TENT), standing((1, 2), 0), 0), (Mover(ONE, TENT), standing(1, (1001, 1000)), 0),
                # At both roots of a curve, which are no fractions, if the other curve is nought there too.
                (Mover(Bend(2, [0, 2], [1, -3, 1]), NOUGHT), standing(0, 0), 2),
                (Mover(Bend(2, [0, 2], [1, -3, 1]), Bend(2, [0, 2], [-2, -2, 2])), standing(0, 0), 0),
                (Mover(Bend(2, [0, 2], [-2, -2, 2]), Bend(2, [0, 2], [-2, -2, 2])), standing(0, 0), 1),
                (Mover(Bend(2, [0, 2], [-2, -2, 2]), NOUGHT), standing((1, 9999), 0), 1),
                (Mover(Bend(2, [0, 2], [-2, -2, 2]), NOUGHT), Mover(NOUGHT, Bend(0, [0, 2], [(1, 9999)])), 0)):
            self.assertEqual(meetings(one, other), wanted)
            self.assertEqual(meetings(one=other, other=one), wanted)

    def test_many(self):
        some, kinds = many_movers(), set()
        for at, one in enumerate(some):
            for other in some[at % 3::3]:
                zeros = Zeros(squares(one, other))
                wanted = None if zeros.stretches else zeros.many(zeros.first, zeros.last)
                self.assertEqual(meetings(one, other), wanted)
                kinds.add(wanted)
        self.assertTrue({None, 0, 1, 2} <= kinds, kinds)


class PassedOn(unittest.TestCase):
    def test_returned_ones(self):
        one, other = Mover(apart(RUNS, STANDS), LINE), Mover(TENT, apart(STANDS, RUNS))
        found = apart(one, other)
        self.assertEqual(found, squares(one, other))
        time = nearer_at(one, other, 2)
        near = value(found, time)
        self.assertLess(support.frac(near), 4)
        self.assertIs(never_nearer(one, other, near), -1 not in Zeros(plus(found, Bend(
            0, [0, 2], [support.pair_of(-support.frac(near) ** 2)]))).signs())
        self.assertEqual(meetings(Mover(found, found), standing(near, near)),
                         Zeros(squares(Mover(found, found), standing(near, near))).many(0, 2))


if __name__ == "__main__":
    unittest.main()
