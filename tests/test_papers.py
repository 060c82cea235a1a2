"""[16], [17] and [18]: covers and counts, when there are some, and what tells whether a value is one."""

import itertools
import unittest
from fractions import Fraction

from handlebends.bends import Bend
from handlebends.deciding import least_within
from handlebends.marks import raised, with_mark
from handlebends.papers import count, count_holds, cover, cover_holds
from handlebends.pieces import pieces
from handlebends.sums import minus, product, scaled
from handlebends.zeros import crossings, sign_row

import support
from papers_by_words import changes, is_count, is_cover, parts
from zeros_by_handles import Zeros, divided, drawn, roots_between, rooted, trimmed, without_repeated_roots, zero_bends

NOUGHT, DIP = Bend(0, [0, 2], [0]), Bend(2, [0, 2], [2, -1, 2])
TOUCH, DEEP = Bend(2, [0, 2], [1, -1, 1]), Bend(2, [0, 2], [1, -3, 1])
TENT = Bend(1, [0, 1, 2], [0, 1, 0])
NEAR = Fraction(1, 9999)


def lifted(bend, height):
    """A curve higher by a value."""
    return minus(bend, Bend(0, [bend.marks[0], bend.marks[-1]], [support.pair_of(-Fraction(height))]))


def all_bends():
    """Bends with zeros of all kinds, in several forms, and of the many others some."""
    found = []
    for bend in zero_bends():
        found += [bend, raised(bend), product(bend, bend), lifted(bend, NEAR)]
        middle = support.pair_of((support.frac(bend.marks[0]) + support.frac(bend.marks[-1])) / 2)
        other = bend
        while other.marks.count(middle) < other.degree:
            other = with_mark(other, middle)
            found.append(other)
    return found + support.many_bends()[::2]


def repeated(powers):
    """The polynomial of the roots of a polynomial that come more than once, by Euclid."""
    one, other = trimmed(powers), trimmed([k * worth for k, worth in enumerate(powers)][1:])
    while other:
        one, other = other, divided(one, other)[1]
    return one


def can_be_counted(bend):
    """Whether there is a count, word for word as [18] has it."""
    rows = [(support.frac(start), support.frac(end), [support.frac(worth) for worth in powers])
            for start, end, powers in pieces(bend)]
    if any(support.curve(bend, t) == 0 for t in (rows[0][0], rows[-1][1])):
        return False
    for start, end, powers in rows:
        # Between marks: no zero time at which the slope is 0 too.
        twice = repeated(powers) if any(powers) else [1]
        if len(twice) > 1 and roots_between(without_repeated_roots(twice), start, end):
            return False
    zeros = Zeros(bend)
    for (_, t, early), (_, _, late) in zip(rows, rows[1:]):
        if support.curve(bend, t) == 0 and not zeros.within_stretch(t):
            left, right = support.slopes(early, t) + [0], support.slopes(late, t) + [0]
            many = [support.frac(mark) for mark in bend.marks].count(t)
            if (left[0] != right[0] or left[0] == 0) and any(right[:bend.degree - many]):
                return False
    return True


class Covers(unittest.TestCase):
    def check(self, bend):
        found = cover(bend)
        zeros = Zeros(bend)
        if zeros.sign(zeros.first) != 1 or zeros.many(zeros.first, zeros.last) > 0:
            self.assertIsNone(found, str(bend))
            return False
        self.assertTrue(all(support.is_pair(time) for time in found))
        self.assertTrue(is_cover(bend, found), (str(bend), found))
        self.assertIs(cover_holds(bend, found), True)
        return True

    def test_told(self):
        for bend, wanted in ((DIP, True), (TOUCH, False), (DEEP, False), (NOUGHT, False), (TENT, False),
                             (Bend(0, [0, 2], [(1, 9999)]), True), (Bend(0, [0, 2], [-1]), False),
                             (Bend(1, [0, 1, 2], [1, (1, 9999), 1]), True), (Bend(1, [0, 1, 2], [1, 0, 1]), False),
                             (Bend(2, [0, 1, 1, 2], [3, -1, 1, -1, 3]), True), (scaled(DIP, -1), False),
                             (Bend(2, [0, 1, 1, 2], [3, -1, 0, -1, 3]), False), (Bend(1, [0, 1], [1, 0]), False)):
            self.assertIs(self.check(bend), wanted, str(bend))

    def test_many(self):
        kinds = [self.check(other)
                 for bend in all_bends()[::2] for other in (bend, lifted(bend, 1), product(bend, bend))]
        self.assertGreater(min(kinds.count(True), kinds.count(False)), 60)

    def test_barely_above(self):
        for bend in zero_bends()[::3] + support.many_bends()[::19]:
            for near in (NEAR, NEAR ** 3, NEAR ** 20):
                low = support.frac(least_within(bend, support.pair_of(near)))
                # Above by less than `near`, and perhaps by nothing; then by a little more than that.
                self.check(lifted(bend, -low))
                self.assertIs(self.check(lifted(bend, near - low)), True)

    def test_near_zero_between_marks_and_at_them(self):
        third = Fraction(1, 3)
        for eps in (NEAR ** 2, NEAR ** 8, NEAR ** 80):
            for roots in ([third] * 2, [third] * 4, [third, third, 1, 1], [0, 0, third, third]):
                powers = rooted(roots)
                bend = drawn((0, 1, [powers[0] + eps] + powers[1:]))
                self.assertIs(self.check(bend), True)
                self.assertIs(self.check(with_mark(raised(bend), (1, 3))), True)
            self.assertIs(self.check(drawn((0, 2, [4 + eps, 0, -4, 0, 1]))), True)
            self.assertIs(self.check(drawn((0, third, [third + eps, -1]), (third, 1, [eps - third, 1]))), True)


class CoverHolds(unittest.TestCase):
    def test_told(self):
        for bend, thing, wanted in (
                (DIP, (), False), (DIP, ((1, 1),), True), (DIP, (1,), True), (DIP, [(1, 1)], False),
                (DIP, ((1, 2), (3, 2)), True), (DIP, ((1, 2),), False),
                (DIP, ((1, 2), 1, (3, 2)), True), (DIP, (1, (1, 2)), False),
                (DIP, (1, 1), False), (DIP, (0, 1), False), (DIP, (1, 2), False), (DIP, ((0, 1), (1, 1)), False),
                (DIP, ((1, 1), (2, 1)), False), (DIP, (-1, 1), False), (DIP, (1, 3), False), (DIP, ((2, 2),), False),
                (DIP, (True,), False), (DIP, ((1, 1), None), False), (DIP, (((1, 1),),), False),
                (TOUCH, (1,), False), (TOUCH, (), False), (DEEP, (1,), False), (NOUGHT, (), False),
                (Bend(1, [0, 1], [1, 2]), (), True), (Bend(1, [0, 1], [0, 2]), (), False),
                (Bend(0, [0, 1], [1]), (), True), (Bend(0, [0, 1], [1]), ((1, 2),), True),
                (Bend(0, [0, 1], [0]), ((1, 2),), False),
                (Bend(2, [0, 1, 1, 2], [3, -1, 1, -1, 3]), (1,), False),
                # Behind the first ones a handle is 0, which is not above nought.
                (Bend(2, [0, 1, 1, 2], [3, -1, 1, -1, 3]), ((1, 2), (3, 2)), False),
                (Bend(2, [0, 1, 1, 2], [3, -1, 1, -1, 3]), ((2, 3), (4, 3)), True)):
            self.assertIs(cover_holds(bend, thing), wanted, (str(bend), thing))
            self.assertIs(is_cover(bend, thing), wanted, (str(bend), thing))

    def test_tried_out(self):
        for bend in (DIP, lifted(TOUCH, NEAR), lifted(TENT, NEAR), *all_bends()[::29]):
            for thing in cuts_to_try(bend):
                self.assertIs(cover_holds(bend, thing), is_cover(bend, thing), (str(bend), thing))

    def test_any_value_at_all(self):
        for bend in (DIP, Bend(1, [0, 2], [1, 2]), TOUCH):
            for thing in things_to_try():
                self.assertIs(cover_holds(bend, thing), is_cover(bend, thing), (str(bend), thing))


def cuts_to_try(bend):
    """Tuples of cuts: some, more, fewer, in another order, outside, at marks."""
    low, high = support.frac(bend.marks[0]), support.frac(bend.marks[-1])
    times = {low + (high - low) * Fraction(k, 6) for k in range(7)} | {support.frac(mark) for mark in bend.marks}
    row = [support.pair_of(t) for t in sorted(times)]
    found = [tuple(some) for many in range(3) for some in itertools.product(row, repeat=many)]
    return found + [tuple(row), tuple(row[1:-1]), tuple(row[1:]), tuple(row[::-1]), tuple(row[1:-1:2])]


def things_to_try():
    """Any values at all, by themselves and in tuples and lists with times."""
    things = support.no_values() + support.no_sequences_of_values() + [1, (1, 2), (3, 2), 0, 2]
    found = list(things)
    for thing in things:
        found += [(thing,), [thing], (1, thing), (thing, 1), ((1, 2), thing, (3, 2)), ((thing,),)]
    return found


class Counts(unittest.TestCase):
    def check(self, bend):
        found = count(bend)
        if not can_be_counted(bend):
            self.assertIsNone(found, str(bend))
            return False
        self.assertIsNotNone(found, str(bend))
        self.assertTrue(all(support.is_pair(time) for time in found))
        self.assertTrue(is_count(bend, found), (str(bend), found))
        self.assertIs(count_holds(bend, found), True)
        # What a count shows: so many crossings.
        cuts = [support.frac(time) for time in found]
        self.assertEqual(sum(changes(part) for part in parts(bend, cuts)), crossings(bend))
        return True

    def test_told(self):
        flat_mark = Bend(2, [0, 1, 2], [1, 0, 0, 1])
        for bend, wanted in (
                (DEEP, True), (DIP, True), (TOUCH, False), (NOUGHT, False), (TENT, False), (Bend(0, [0, 1], [3]), True),
                (Bend(0, [0, 1], [-3]), True), (Bend(1, [0, 1], [-1, 1]), True), (Bend(1, [0, 1], [0, 1]), False),
                (Bend(1, [0, 1], [-1, 0]), False), (scaled(DEEP, -1), True), (scaled(TOUCH, -1), False),
                # The same curve touches nought where there is a mark, once and twice; all slopes but one are 0 there.
                (with_mark(TOUCH, 1), True), (with_mark(with_mark(TOUCH, 1), 1), True),
                (with_mark(raised(TOUCH), 1), False),
                (with_mark(with_mark(raised(TOUCH), 1), 1), True), (flat_mark, True), (raised(flat_mark), True),
                # A kink at nought: the mark stands there as often as can be.
                (Bend(1, [0, 1, 2], [1, 0, 1]), True), (Bend(1, [0, 1, 2], [1, 0, -5]), True),
                (Bend(1, [0, 1, 2], [1, 0, -1]), True), (Bend(2, [0, 1, 1, 2], [1, 1, 0, -2, -3]), True),
                (Bend(2, [0, 1, 1, 2], [1, 0, 0, -2, -3]), True), (Bend(2, [0, 1, 1, 2], [1, 0, 0, 1, 3]), True),
                # There the handles change sign more often than the curve, on one side or on both, until it is cut.
                (Bend(3, [0, 1, 1, 1, 2], [3, -1, 1, 0, 1, 1, 3]), True),
                (Bend(3, [0, 1, 1, 1, 2], [3, -1, 1, 0, 1, -1, 3]), True),
                (Bend(3, [0, 1, 1, 1, 2], [3, -1, 1, 0, -1, 1, -3]), True),
                # Nought over stretches: within, and at the ends.
                (Bend(1, [0, 1, 2, 3], [1, 0, 0, -1]), True), (Bend(1, [0, 1, 2, 3], [1, 0, 0, 1]), True),
                (Bend(1, [0, 1, 2, 3], [0, 0, 1, 1]), False), (Bend(1, [0, 1, 2, 3], [1, 1, 0, 0]), False),
                (Bend(1, [0, 1, 2, 3, 4, 5], [1, 0, 0, -1, -1, 2]), True),
                (drawn((-1, 1, [0, 0, 0, 1])), False), (drawn((-1, 1, [0, 0, 0, 1])), False),
                (with_mark(drawn((-1, 1, [0, 0, 0, 1])), 0), True),
                (with_mark(drawn((-1, 1, [0, 0, -1, 1])), 0), False),
                (with_mark(with_mark(drawn((-1, 1, [0, 0, -1, 1])), 0), 0), False),
                (with_mark(with_mark(drawn((-1, Fraction(1, 2), [0, 0, -1, 1])), 0), 0), True),
                (drawn((-1, 1, [0, NEAR, 0, 1])), True), (drawn((0, 2, [4, 0, -4, 0, 1])), False),
                (drawn((0, 2, [4 - NEAR ** 4, 0, -4, 0, 1])), True), (drawn((0, 2, [-8, 0, 12, 0, -6, 0, 1])), False)):
            self.assertIs(self.check(bend), wanted, str(bend))

    def test_many(self):
        kinds = [self.check(bend) for bend in all_bends()]
        self.assertGreater(min(kinds.count(True), kinds.count(False)), 100)

    def test_zeros_near_one_another(self):
        third = Fraction(1, 3)
        for near in (NEAR, NEAR ** 3, NEAR ** 20):
            for roots in ([third, third + near], [third, third + near, third + 2 * near], [near, 1 - near],
                          [third, third + near, third + 2 * near, third + 3 * near]):
                bend = drawn((0, 1, rooted(roots)))
                self.assertIs(self.check(bend), True)
                self.assertIs(self.check(with_mark(raised(bend), (1, 3))), True)
            self.assertIs(self.check(drawn((0, 1, rooted([third, third, third + near])))), False)
            for sign in (1, -1):
                # Beside the root of 2, from below and from above; between these the curve nearly touches nought.
                self.assertIs(self.check(drawn((0, 2, [4 + sign * near ** 2, 0, -4, 0, 1]))), True)

    def test_barely_crossing(self):
        for bend in zero_bends()[::2] + support.many_bends()[::19]:
            for near in (NEAR, NEAR ** 3, NEAR ** 12):
                low = support.frac(least_within(bend, support.pair_of(near)))
                self.check(lifted(bend, -low))
                self.check(lifted(bend, -low - near))

    def test_where_there_is_none_fine_cuts_do_not_help(self):
        for bend, t in ((TOUCH, 1), (with_mark(raised(TOUCH), 1), 1), (drawn((-1, 1, [0, 0, 0, 1])), 0),
                        (with_mark(drawn((-1, Fraction(1, 2), [0, 0, -1, 1])), 0), 0)):
            self.assertIsNone(count(bend))
            for k in range(1, 40):
                cuts = [t - Fraction(1, 3 ** k), t + Fraction(1, 2 ** (k + 1))]
                self.assertGreater(changes(parts(bend, cuts)[1]), 1)
                self.assertIs(count_holds(bend, tuple(support.pair_of(cut) for cut in cuts)), False)


class CountHolds(unittest.TestCase):
    def test_told(self):
        flat = Bend(1, [0, 1, 2, 3], [1, 0, 0, -1])
        for bend, thing, wanted in (
                (DEEP, (), False), (DEEP, ((1, 1),), True), (DEEP, (1,), True), (DEEP, [1], False), (DEEP, 1, False),
                (DEEP, ((1, 4), (1, 2), (3, 2)), True), (DEEP, ((1, 4),), False), (DEEP, (1, (1, 2)), False),
                (DEEP, (1, 1), False), (DEEP, (0, 1), False), (DEEP, (1, 2), False), (DIP, (), False),
                (DIP, (1,), True),
                (TOUCH, (1,), False), (TOUCH, (), False), (TOUCH, ((1, 2), (3, 2)), False), (TENT, (1,), False),
                (with_mark(TOUCH, 1), (), True), (with_mark(TOUCH, 1), (1,), False),
                (Bend(1, [0, 2], [-1, 1]), (), True), (Bend(1, [0, 2], [-1, 1]), (1,), False),
                (Bend(1, [0, 2], [-1, 1]), ((1, 2),), True), (Bend(1, [0, 2], [-1, 0]), (), False),
                (Bend(1, [0, 2], [0, 1]), (), False), (Bend(1, [0, 2], [0, 1]), (1,), False),
                (flat, (), True), (flat, (1,), False), (flat, ((3, 2),), False), (flat, ((1, 2), (5, 2)), True),
                (Bend(0, [0, 1], [-1]), (), True), (Bend(0, [0, 1], [-1]), ((1, 2),), True),
                (Bend(0, [0, 1], [0]), (), False), (NOUGHT, (1,), False)):
            self.assertIs(count_holds(bend, thing), wanted, (str(bend), thing))
            self.assertIs(is_count(bend, thing), wanted, (str(bend), thing))

    def test_tried_out(self):
        held = 0
        for bend in (DEEP, TOUCH, with_mark(TOUCH, 1), lifted(TENT, -NEAR), *all_bends()[::23]):
            for thing in cuts_to_try(bend):
                wanted = is_count(bend, thing)
                self.assertIs(count_holds(bend, thing), wanted, (str(bend), thing))
                held += wanted
        self.assertGreater(held, 100)

    def test_any_value_at_all(self):
        for bend in (DEEP, Bend(1, [0, 2], [1, -2]), TOUCH):
            for thing in things_to_try():
                self.assertIs(count_holds(bend, thing), is_count(bend, thing), (str(bend), thing))


class PassedOn(unittest.TestCase):
    def test_papers_of_others(self):
        some = [bend for bend in all_bends() if bend.marks[0] == (0, 1) and bend.marks[-1] == (1, 1)][::17]
        for one in some:
            for other in some:
                for paper in (cover(other), count(other)):
                    for thing in (paper, paper and paper[1:], paper and paper + paper[:1], paper and paper[::-1]):
                        self.assertIs(cover_holds(one, thing), is_cover(one, thing))
                        self.assertIs(count_holds(one, thing), is_count(one, thing))

    def test_many_cuts(self):
        bend = drawn((0, 1, rooted([Fraction(k, 9) for k in range(1, 9)])))
        self.assertEqual((crossings(bend), len(sign_row(bend))), (8, 17))
        found = count(bend)
        self.assertTrue(is_count(bend, found))
        finer = tuple(support.pair_of(Fraction(2 * k + 1, 144)) for k in range(72))
        self.assertIs(count_holds(bend, finer), is_count(bend, finer))
        self.assertIs(count_holds(bend, found + ((9, 10),)), is_count(bend, found + ((9, 10),)))


if __name__ == "__main__":
    unittest.main()
