"""[15]: what is above, never below, or below at some time; what rises; what bends upward; the least value."""

import itertools
import unittest
from fractions import Fraction

from handlebends.bends import Bend
from handlebends.deciding import below_at, bends_up, is_above, least_within, never_below, rises, rises_always
from handlebends.errors import Unlike
from handlebends.marks import raised, with_mark
from handlebends.pieces import pieces
from handlebends.sums import area_to, minus, plus, product, scaled

import support
from zeros_by_handles import Zeros, drawn, rooted, zero_bends

NOUGHT, DIP = Bend(0, [0, 2], [0]), Bend(2, [0, 2], [2, -1, 2])
TOUCH, DEEP = Bend(2, [0, 2], [1, -1, 1]), Bend(2, [0, 2], [1, -3, 1])
TENT = Bend(1, [0, 1, 2], [0, 1, 0])
NEAR = Fraction(1, 9999)


def flat(bend, height):
    """A curve that has one value over the stretch of a bend."""
    return Bend(0, [bend.marks[0], bend.marks[-1]], [support.pair_of(Fraction(height))])


def difference(p, q):
    """The bend of the difference of two curves, by the powers of their pieces."""
    row = sorted({support.frac(mark) for bend in (p, q) for mark in bend.marks})
    found = []
    for start, end in zip(row, row[1:]):
        one, other = (next([support.frac(worth) for worth in powers] for a, b, powers in pieces(bend)
                           if support.frac(a) <= start and end <= support.frac(b)) for bend in (p, q))
        found.append((start, end, [a - b for a, b in itertools.zip_longest(one, other, fillvalue=0)]))
    return drawn(*found)


def all_bends():
    """Bends with zeros of all kinds, and of the many others some."""
    return zero_bends() + support.many_bends()[::3]


class Above(unittest.TestCase):
    def check(self, p, q, signs):
        self.assertIs(is_above(p, q), signs == (1,), (str(p), str(q)))
        self.assertIs(never_below(p, q), -1 not in signs, (str(p), str(q)))
        time = below_at(p, q)
        if -1 not in signs:
            self.assertIsNone(time)
        else:
            self.assertTrue(support.is_pair(time))
            t = support.frac(time)
            self.assertTrue(support.frac(p.marks[0]) <= t <= support.frac(p.marks[-1]))
            self.assertLess(support.curve(p, t), support.curve(q, t))

    def test_told(self):
        one, half = Bend(0, [0, 2], [1]), Bend(0, [0, 2], [(1, 2)])
        for p, q, signs in (
                (DIP, NOUGHT, (1,)), (TOUCH, NOUGHT, (1, 0, 1)), (DEEP, NOUGHT, (1, 0, -1, 0, 1)), (NOUGHT, DIP, (-1,)),
                (NOUGHT, TOUCH, (-1, 0, -1)), (NOUGHT, NOUGHT, (0,)), (one, NOUGHT, (1,)), (NOUGHT, one, (-1,)),
                (one, TENT, (1, 0, 1)), (TENT, one, (-1, 0, -1)), (TENT, NOUGHT, (0, 1, 0)), (NOUGHT, TENT, (0, -1, 0)),
                (TENT, half, (-1, 0, 1, 0, -1)), (TENT, TENT, (0,)), (with_mark(raised(TOUCH), 1), TOUCH, (0,)),
                # Once nought all along a stretch, at the beginning, in the midst, at the end.
                (Bend(1, [0, 1, 2], [0, 0, 1]), NOUGHT, (0, 1)), (Bend(1, [0, 1, 2], [-1, 0, 0]), NOUGHT, (-1, 0)),
                (Bend(1, [0, (1, 2), 1, 2], [1, 0, 0, 1]), NOUGHT, (1, 0, 1)),
                (Bend(1, [0, (1, 2), 1, 2], [0, 1, 0, -1]), NOUGHT, (0, 1, 0, -1)),
                (Bend(1, [0, (1, 2), 1, 2], [0, -1, 0, 0]), NOUGHT, (0, -1, 0)),
                (Bend(1, [0, (1, 2), 1, 2], [1, 0, 0, -1]), NOUGHT, (1, 0, -1)),
                (Bend(1, [0, (1, 2), 1, 2], [0, 0, -1, 0]), NOUGHT, (0, -1, 0))):
            self.check(p, q, signs)

    def test_below_between_times_near_one_another(self):
        for powers, signs in (
                (rooted([Fraction(1, 3), Fraction(1, 3) + NEAR]), (1, 0, -1, 0, 1)),
                (rooted([Fraction(1, 3)] * 2), (1, 0, 1)), (rooted([0, NEAR]), (0, -1, 0, 1)),
                (rooted([1 - NEAR, 1]), (1, 0, -1, 0)), ([4, 0, -4, 0, 1], (1,)),
                ([Fraction(2, 9) - NEAR ** 3, -1, Fraction(9, 8)], (1, 0, -1, 0, 1)),
                ([Fraction(2, 9) + NEAR ** 3, -1, Fraction(9, 8)], (1,))):
            bend = drawn((0, 1, powers))
            self.check(bend, flat(bend, 0), signs)
        # Beside the root of 2, which is no fraction.
        for eps, signs in ((0, (1, 0, 1)), (NEAR ** 2, (1, 0, -1, 0, 1)), (-NEAR ** 2, (1,))):
            bend = drawn((0, 2, [4 - eps, 0, -4, 0, 1]))
            self.check(bend, flat(bend, 0), signs)
            self.check(flat(bend, 0), bend, tuple(-sign for sign in signs))

    def test_zeros_of_all_kinds(self):
        for bend in all_bends():
            signs = Zeros(bend).signs()
            self.check(bend, flat(bend, 0), signs)
            self.check(flat(bend, 0), bend, tuple(-sign for sign in signs))

    def test_pairs(self):
        for low, high in ((0, 2), (Fraction(-7, 3), 5)):
            some = support.over_one_stretch(low, high, 9)
            for p in some:
                for q in some:
                    self.check(p, q, Zeros(difference(p, q)).signs())

    def test_other_forms_of_the_same_curve(self):
        for bend in all_bends()[::5]:
            other = raised(bend)
            self.check(bend, other, (0,))
            self.check(other, plus(bend, flat(bend, NEAR)), (-1,))
            self.check(plus(other, flat(bend, NEAR)), bend, (1,))

    def test_stretches_that_differ(self):
        for ask in (is_above, never_below, below_at):
            for marks in ([0, 3], [1, 2], [0, (3, 2)], [-1, 2], [2, 4]):
                for p, q in ((TENT, Bend(0, marks, [0])), (Bend(0, marks, [5]), TENT)):
                    with self.assertRaises(Unlike) as caught:
                        ask(p, q)
                    self.assertIs(type(caught.exception), Unlike)


class Rises(unittest.TestCase):
    def slope_signs(self, bend):
        """The signs of the slope of each piece, told in another way."""
        return [Zeros(drawn(row)).signs() for row in support.slopes_of(bend)]

    def check(self, bend, nowhere_lower, always_higher):
        self.assertIs(rises(bend), nowhere_lower, str(bend))
        self.assertIs(rises_always(bend), always_higher, str(bend))

    def test_told(self):
        for bend, nowhere_lower, always_higher in (
                (NOUGHT, True, False), (Bend(0, [0, 2], [5]), True, False), (TOUCH, False, False), (TENT, False, False),
                (Bend(2, [0, 2], [0, 0, 1]), True, True), (Bend(2, [0, 2], [-1, 0, 0]), True, True),
                (Bend(1, [0, 1, 2], [0, 1, 1]), True, False), (Bend(1, [0, 1, 2], [0, 1, 5]), True, True),
                (Bend(1, [0, 1, 2], [0, 5, 6]), True, True), (Bend(1, [0, 1, 2], [1, 1, 2]), True, False),
                (Bend(1, [0, 1, 2], [0, 1, (99, 100)]), False, False), (Bend(1, [0, 1], [1, 0]), False, False),
                (Bend(1, [0, 1], [0, 1]), True, True), (drawn((-1, 1, [0, 0, 0, 1])), True, True),
                (drawn((-1, 1, [0, -NEAR, 0, 1])), False, False), (drawn((-1, 1, [0, NEAR, 0, 1])), True, True),
                # The slope is the square of t * t - 2; then that less a little.
                (drawn((0, 2, [0, 4, 0, Fraction(-4, 3), 0, Fraction(1, 5)])), True, True),
                (drawn((0, 2, [0, 4 - NEAR ** 2, 0, Fraction(-4, 3), 0, Fraction(1, 5)])), False, False),
                (drawn((0, 1, [0, 1]), (1, 2, [1]), (2, 3, [-1, 1])), True, False)):
            self.check(bend, nowhere_lower, always_higher)

    def test_many(self):
        kinds = set()
        for bend in all_bends()[::2]:
            for other in (bend, area_to(product(bend, bend)), area_to(bend)):
                signs = self.slope_signs(other)
                wanted = all(-1 not in row for row in signs), all(-1 not in row and 1 in row for row in signs)
                self.check(other, *wanted)
                self.check(scaled(other, -1), all(1 not in row for row in signs),
                           all(1 not in row and -1 in row for row in signs))
                kinds.add(wanted)
        self.assertEqual(kinds, {(True, True), (True, False), (False, False)})

    def test_by_words(self):
        for bend in support.many_bends()[::2]:
            heights = [support.curve(bend, t) for t in support.asked_times(bend.marks)]
            pairs = list(zip(heights, heights[1:]))
            if rises(bend):
                self.assertTrue(all(early <= late for early, late in pairs))
            if rises_always(bend):
                self.assertTrue(all(early < late for early, late in pairs))


class BendsUp(unittest.TestCase):
    def wanted(self, bend):
        """Whether no second slope is below 0 and no slope becomes less at a mark, told in another way."""
        rows = support.slopes_of(bend)
        for early, late in zip(rows, rows[1:]):
            if support.polynomial(early[2], early[1]) > support.polynomial(late[2], late[0]):
                return False
        seconds = [(start, end, [k * worth for k, worth in enumerate(powers)][1:] or [0])
                   for start, end, powers in rows]
        return all(-1 not in Zeros(drawn(row)).signs() for row in seconds)

    def test_told(self):
        for bend, wanted in (
                (TOUCH, True), (DIP, True), (DEEP, True), (TENT, False), (NOUGHT, True), (Bend(0, [0, 2], [-3]), True),
                (Bend(1, [0, 1], [5, -7]), True), (scaled(TENT, -1), True), (scaled(TOUCH, -1), False),
                (Bend(1, [0, 1, 2], [0, 1, 2]), True), (Bend(1, [0, 1, 2], [0, 1, (1999, 1000)]), False),
                (Bend(1, [0, 1, 2], [0, 1, (2001, 1000)]), True), (drawn((0, 1, [0, 0, 0, 1])), True),
                (drawn((-1, 1, [0, 0, 0, 1])), False), (drawn((-1, 1, [0, 0, 0, 0, 1])), True),
                (drawn((-1, 1, [0, 0, -NEAR, 0, 1])), False), (drawn((-1, 1, [0, 0, NEAR, 0, 1])), True),
                # Both pieces bend upward, but the kink between them does not; then it does.
                (drawn((0, 1, [0, 0, 1]), (1, 2, [1, -2, 2])), True),
                (drawn((0, 1, [0, 0, 1]), (1, 2, [2, -4, 3])), True),
                (drawn((0, 1, [0, 0, 1]), (1, 2, [2, -2, 1])), False),
                (drawn((0, 1, [0, 0, -1]), (1, 2, [-1])), False)):
            self.assertIs(bends_up(bend), wanted, str(bend))

    def test_many(self):
        kinds = []
        for bend in all_bends()[1::2]:
            for other in (bend, area_to(area_to(product(bend, bend))), scaled(bend, -1)):
                self.assertIs(bends_up(other), self.wanted(other), str(other))
                kinds.append(self.wanted(other))
        self.assertGreater(min(kinds.count(True), kinds.count(False)), 50)

    def test_by_words(self):
        for bend in support.many_bends()[::3]:
            times = support.asked_times(bend.marks)[::2]
            points = [(t, support.curve(bend, t)) for t in times]
            above = any((c[0] - b[0]) * a[1] + (b[0] - a[0]) * c[1] < (c[0] - a[0]) * b[1]
                        for a, b, c in itertools.combinations(points, 3))
            if above:
                self.assertIs(bends_up(bend), False, str(bend))


class LeastWithin(unittest.TestCase):
    NEARS = (1, 5, (1, 2), (3, 7), (1, 999999999), (999999999, 999999998), (1, 1024))

    def check(self, bend, near):
        found = least_within(bend, near)
        self.assertTrue(support.is_pair(found))
        low = support.frac(found)
        self.assertNotIn(-1, Zeros(minus(bend, flat(bend, low))).signs(), (str(bend), near))
        self.assertIn(-1, Zeros(minus(bend, flat(bend, low + support.frac(near)))).signs(), (str(bend), near))

    def test_many(self):
        for bend in all_bends()[::4]:
            for near in self.NEARS:
                self.check(bend, near)

    def test_told(self):
        for bend, least in ((NOUGHT, 0), (TENT, 0), (scaled(TENT, -1), -1), (Bend(0, [0, 2], [(2, 3)]), Fraction(2, 3)),
                            (Bend(1, [0, 1, 2, 3], [2, 1, 1, 4]), 1), (DIP, Fraction(1, 2)), (TOUCH, 0), (DEEP, -1)):
            for near in self.NEARS:
                low = support.frac(least_within(bend, near))
                self.assertTrue(low <= least < low + support.frac(near), (str(bend), near))

    def test_very_near(self):
        # Least at the root of 2: -4; least where 3 * t * t is 2.
        for powers, square in (([0, 0, -4, 0, 1], None), ([0, -2, 0, 1], Fraction(32, 27))):
            bend = drawn((0, 2, powers))
            for many in (12, 100, 1000):
                near = Fraction(1, 10 ** many)
                low = support.frac(least_within(bend, support.pair_of(near)))
                if square is None:
                    self.assertTrue(low <= -4 < low + near)
                else:
                    self.assertTrue(low + near < 0 and (low + near) ** 2 < square <= low ** 2)

    def test_returned_ones_are_passed_on(self):
        bend = drawn((0, 2, [3, -2, 0, 1]))
        low = least_within(bend, (1, 999999999))
        lifted = minus(bend, flat(bend, support.frac(low)))
        self.assertIs(never_below(lifted, flat(bend, 0)), True)
        gap = support.pair_of(Fraction(1, 999999999) / 10 ** 12)
        closer = least_within(lifted, gap)
        self.check(lifted, gap)
        self.check(lifted, closer if closer[0] > 0 else gap)
        time = below_at(lifted, flat(bend, Fraction(1, 999999999)))
        self.assertLess(support.curve(lifted, support.frac(time)), Fraction(1, 999999999))


if __name__ == "__main__":
    unittest.main()
