"""[11], with [9] and [10] for least forms: pieces, from_pieces and smoothness."""

import unittest
from fractions import Fraction

from handlebends.bends import Bend, value
from handlebends.errors import InvalidPieces, InvalidTime
from handlebends.pieces import from_pieces, pieces, smoothness

import support


class Pieces(unittest.TestCase):
    def test_told(self):
        self.assertEqual(pieces(Bend(2, [0, 2], [1, -1, 1])), (((0, 1), (2, 1), ((1, 1), (-2, 1), (1, 1))),))
        self.assertEqual(pieces(Bend(1, [0, 1, 2], [0, 1, 0])),
                         (((0, 1), (1, 1), ((0, 1), (1, 1))), ((1, 1), (2, 1), ((2, 1), (-1, 1)))))
        self.assertEqual(pieces(Bend(0, [(1, 2), 3], [(-4, 3)])), (((1, 2), (3, 1), ((-4, 3),)),))

    def test_all_powers_are_told(self):
        self.assertEqual(pieces(Bend(3, [0, 1], [5, 5, 5, 5])), (((0, 1), (1, 1), ((5, 1), (0, 1), (0, 1), (0, 1))),))

    def test_unlike_marks_bound_them(self):
        for bend in support.many_bends():
            rows = pieces(bend)
            unlike = [mark for k, mark in enumerate(bend.marks) if k == 0 or mark != bend.marks[k - 1]]
            self.assertEqual([(start, end) for start, end, _ in rows], list(zip(unlike, unlike[1:])))
            self.assertTrue(all(len(powers) == bend.degree + 1 for _, _, powers in rows))
            self.assertIsInstance(rows, tuple)
            self.assertTrue(all(type(row) is tuple and type(row[2]) is tuple for row in rows))

    def test_values(self):
        for bend in support.many_bends():
            for start, end, powers in pieces(bend):
                early, late = support.frac(start), support.frac(end)
                for k in range(bend.degree + 2):
                    t = early + (late - early) * Fraction(k, bend.degree + 1)
                    found = support.pair_of(support.polynomial(powers, t))
                    self.assertEqual(found, support.pair_of(support.curve(bend, t)), str(bend))


class FromPieces(unittest.TestCase):
    def check_same_curve(self, bend, rows):
        for start, end, powers in rows:
            early, late = support.frac(start), support.frac(end)
            many = max(bend.degree, len(powers)) + 1
            for k in range(many + 1):
                t = early + (late - early) * Fraction(k, many)
                self.assertEqual(value(bend, support.pair_of(t)), support.pair_of(support.polynomial(powers, t)), rows)

    def test_told(self):
        told = [
            ([(0, 1, [0])], Bend(0, [0, 1], [0])),
            ([(0, 1, [7, 0, 0])], Bend(0, [0, 1], [7])),
            ([(0, 2, (1, -2, 1))], Bend(2, [0, 2], [1, -1, 1])),
            ([(0, 1, [1, -2, 1]), (1, 2, [1, -2, 1])], Bend(2, [0, 2], [1, -1, 1])),
            ([(0, 1, [0, 1]), (1, 2, [2, -1])], Bend(1, [0, 1, 2], [0, 1, 0])),
            ([(0, 1, [0]), (1, 2, [1, -2, 1])], Bend(2, [0, 1, 2], [0, 0, 0, 1])),
            ([(0, 1, [0]), (1, 2, [0, -1, 1])], Bend(2, [0, 1, 1, 2], [0, 0, 0, (1, 2), 2])),
            ([(0, 1, [(1, 2)]), (1, 3, [(1, 2), 0])], Bend(0, [0, 3], [(1, 2)])),
            ([(-1, 0, [0, (-1, 1)]), (0, (1, 2), ((0, 1), (1, 1), (0, 1)))], Bend(1, [-1, 0, (1, 2)], [1, 0, (1, 2)])),
        ]
        for rows, bend in told:
            self.assertEqual(from_pieces(rows), bend, rows)
            self.assertEqual(from_pieces(tuple(rows)), bend, rows)

    def test_of_pieces(self):
        for bend in support.many_bends():
            rows = pieces(bend)
            found = from_pieces(rows)
            self.assertEqual((found.degree, found.marks), support.least_marks(rows), str(bend))
            self.check_same_curve(found, rows)
            self.assertEqual(from_pieces(pieces(found)), found)

    def test_bends_in_least_form_come_back(self):
        for bend in (Bend(1, [0, 1, 2], [0, 1, 0]), Bend(2, [0, 1, 1, 3], [1, 0, 5, 0, 2]), Bend(0, [0, 1], [0]),
                     Bend(3, [-1, 0, (1, 2), (1, 2), 2], [1, -1, 1, -1, 1, -1, 1]),
                     Bend(4, [0, 1, 1, 1, 1, 2], [0, 1, 0, 1, 0, 1, 0, 1, 0])):
            self.assertEqual(from_pieces(pieces(bend)), bend)

    def test_marks_that_are_not_wanted_go(self):
        self.assertEqual(from_pieces(pieces(Bend(2, [0, 1, 2], [1, 0, 0, 1]))), Bend(2, [0, 2], [1, -1, 1]))
        self.assertEqual(from_pieces(pieces(Bend(3, [0, 1, 1, 1, 2], [4] * 7))), Bend(0, [0, 2], [4]))

    def test_all_smoothness_at_one_mark(self):
        for degree in range(1, 5):
            for smooth in range(degree):
                # 0 ahead of time 1, and (t - 1) ** (smooth + 1) + (t - 1) ** degree behind it.
                rows = [(0, 1, [0]), (1, 3, added(shifted(smooth + 1), shifted(degree)))]
                bend = from_pieces(rows)
                self.assertEqual((bend.degree, bend.marks.count((1, 1))), (degree, degree - smooth))
                self.check_same_curve(bend, rows)
                self.assertEqual(smoothness(bend, 1), smooth)

    def test_degrees_may_differ(self):
        rows = [(0, 1, [0, 0, 0, 0, 1]), (1, 2, [1]), (2, 3, [-1, 1, 0]), (3, 4, [(1, 2), (1, 2)])]
        bend = from_pieces(rows)
        self.assertEqual((bend.degree, bend.marks), support.least_marks(rows))
        self.check_same_curve(bend, rows)

    def test_many_rows(self):
        # Between k and k + 1 the slope is k + 1.
        rows = [(k, k + 1, (-k * (k + 1) // 2, k + 1)) for k in range(12)]
        bend = from_pieces(rows)
        self.assertEqual((bend.degree, len(bend.marks)), (1, 13))
        self.check_same_curve(bend, rows)


def shifted(many):
    """The powers of (t - 1) ** many."""
    row = [1]
    for _ in range(many):
        row = [a - b for a, b in zip([0] + row, row + [0])]
    return row


def added(one, other):
    """Two polynomials together."""
    many = max(len(one), len(other))
    return [a + b for a, b in zip(one + [0] * (many - len(one)), other + [0] * (many - len(other)))]


class WrongRows(unittest.TestCase):
    GOOD = [(0, 1, [0, 1]), (1, 2, [2, -1]), (2, 3, [0]), (3, (7, 2), [-3, 1])]

    def check(self, at, rows):
        with self.assertRaises(InvalidPieces, msg=rows) as caught:
            from_pieces(rows)
        self.assertEqual(caught.exception.at, at, rows)

    def test_no_sequence(self):
        for thing in (None, True, 0, 5, "", "rows", (), [], {}, Bend(1, [0, 1], [0, 1]), InvalidPieces(3), (1, 2)):
            self.check(0, thing)

    def wrong_things(self, start, end, powers):
        things = support.no_values() + support.no_sequences_of_values()
        for thing in support.no_values():
            things += [(thing, end, powers), (start, thing, powers), (start, end, [thing]), (start, end, [0, thing])]
        things += [(start, end, thing) for thing in support.no_sequences_of_values()]
        things += [[start, end, powers], (start, end), (start, end, powers, 0), (start, end, powers, powers),
                   (start, powers), (end, start, powers), (start, start, powers), (start, end, []), (start, end, ()),
                   ((start, end), powers)]
        return things

    def test_each_thing_wrong_at_each_index(self):
        for at, row in enumerate(self.GOOD):
            for thing in self.wrong_things(*row):
                for later in (self.GOOD[at + 1:], [None], []):
                    self.check(at, self.GOOD[:at] + [thing] + later)

    def test_what_does_not_follow(self):
        for at in range(1, len(self.GOOD)):
            start, end, powers = self.GOOD[at]
            half = support.pair_of(support.frac(start) + Fraction(1, 4))
            for row in ((half, end, powers), (start - 1, end, powers), (-9, end, powers),
                        (start, end, [powers[0] + 1] + powers[1:]), (start, end, [50])):
                self.check(at, self.GOOD[:at] + [row] + self.GOOD[at + 1:])

    def test_order_and_number(self):
        self.check(1, [self.GOOD[0], self.GOOD[0], self.GOOD[1]])
        self.check(1, self.GOOD[::-1])
        self.check(1, [self.GOOD[0], self.GOOD[2]])
        self.check(2, [self.GOOD[0], self.GOOD[1], self.GOOD[1]])
        self.check(1, [self.GOOD[0], None, None])

    def test_right_rows_are_not_refused(self):
        self.assertEqual(len(from_pieces(self.GOOD)), 5)
        self.assertEqual(len(from_pieces(self.GOOD[1:3])), 3)


class Smoothness(unittest.TestCase):
    def test_told(self):
        self.assertEqual(smoothness(Bend(1, [0, 1, 2], [0, 1, 0]), 1), 0)
        self.assertEqual(smoothness(Bend(2, [0, 1, 2], [0, 0, 1, 0]), 1), 1)
        self.assertEqual(smoothness(Bend(3, [0, 1, 2], [0, 0, 1, 0, 0]), 1), 2)
        self.assertEqual(smoothness(Bend(4, [0, 1, 2], [0, 0, 1, 0, 0, 0]), (1, 1)), 3)
        self.assertEqual(smoothness(Bend(3, [0, 1, 1, 2], [0, 0, 1, 0, 0, 0]), 1), 1)
        self.assertEqual(smoothness(Bend(3, [0, 1, 1, 1, 2], [0, 0, 1, 0, 0, 0, 0]), 1), 0)

    def test_only_the_first_ones_count(self):
        # |t - 1| and (t - 1) ** 2: the second slopes agree, the first ones do not.
        self.assertEqual(smoothness(from_pieces([(0, 1, [2, -3, 1]), (1, 2, [0, -1, 1])]), 1), 0)

    def test_marks_that_are_not_wanted(self):
        self.assertIsNone(smoothness(Bend(2, [0, 1, 2], [1, 0, 0, 1]), 1))
        self.assertIsNone(smoothness(Bend(3, [0, 1, 1, 1, 2], [4] * 7), 1))
        self.assertEqual(smoothness(Bend(2, [0, 1, 1, 2], [0, 0, 0, 0, 1]), 1), 1)

    def test_against_slopes(self):
        for bend in support.many_bends():
            rows = pieces(bend)
            for early, late in zip(rows, rows[1:]):
                wanted = support.agreeing(early[2], late[2], support.frac(late[0]))
                self.assertEqual(smoothness(bend, late[0]), wanted, str(bend))

    def test_between_marks(self):
        for bend in support.many_bends()[::5]:
            inner = {support.frac(mark) for mark in bend.marks}
            for t in support.asked_times(bend.marks):
                if t not in inner:
                    self.assertIsNone(smoothness(bend, support.pair_of(t)))

    def test_degree_nought(self):
        self.assertIsNone(smoothness(Bend(0, [0, 2], [1]), 1))

    def test_wrong_times(self):
        for bend in (Bend(0, [-5, 5], [1]), Bend(1, [-5, 0, 5], [0, 1, 0]), Bend(2, [-5, 5], [1, 2, 3])):
            for time in support.no_values() + [-5, 5, (-5, 1), (5, 1), -6, 6, (-11, 2), (11, 2), 10 ** 20]:
                with self.assertRaises(InvalidTime, msg=time) as caught:
                    smoothness(bend, time)
                self.assertIs(caught.exception.time, time)


if __name__ == "__main__":
    unittest.main()
