"""[21] and [22]: the least miss, nearest bends, weighings, and what tells whether a value is one."""

import unittest
from fractions import Fraction

from handlebends.bends import Bend, homes, value
from handlebends.errors import InvalidPoints
from handlebends.marks import raised
from handlebends.nearest import least_miss, nearest, weighing, weighing_holds
from handlebends.points import can_pass

import support

SOME = [(0, 0), (1, 1), (2, 0)]


def point_rows(degree, marks, most):
    """Rows of points for a degree and marks: at some of the marks, and at times between, here and there."""
    row = sorted({support.frac(mark) for mark in marks})
    pool = sorted(set(row) | {early + (late - early) * Fraction(k, 7)
                              for early, late in zip(row, row[1:]) for k in (1, 2, 4, 6)})
    found = []
    for many in range(1, most + 1):
        for start, step in ((0, 1), (1, 2), (2, 3), (0, 5)):
            times = sorted({pool[(start + step * k) % len(pool)] for k in range(many)})
            heights = [Fraction((7 * k * k + 3 * k + start) % 11 - 5, k % 3 + 1) for k in range(len(times))]
            found.append([(support.pair_of(t), support.pair_of(height)) for t, height in zip(times, heights)])
    return found


def cases(most=7):
    """Degrees, marks and points for them."""
    return [(degree, marks, points) for degree in range(5) for marks in support.mark_rows(degree)
            for points in point_rows(degree, marks, most)]


def misses(bend, points):
    """By how much a bend misses each point, by [6]."""
    return [abs(support.curve(bend, support.frac(time)) - support.frac(height)) for time, height in points]


def is_weighing(degree, marks, points, worth, thing):
    """Whether any value at all is a weighing for a value, word for word as [22] has it."""
    paper = support.values_told(thing)
    if paper is None or len(paper) != len(points) or sum(map(abs, paper)) != 1:
        return False
    rows = [support.all_weights(degree, tuple(marks), support.frac(time)) for time, _ in points]
    if any(sum(row[at] * y for row, y in zip(rows, paper)) != 0 for at in range(len(rows[0]))):
        return False
    return sum(support.frac(height) * y for (_, height), y in zip(points, paper)) >= support.frac(worth)


class Nearest(unittest.TestCase):
    def check(self, degree, marks, points):
        """The least miss, after showing that a bend misses by no more, and that each bend misses by as much."""
        least, bend = least_miss(degree, marks, points), nearest(degree, marks, points)
        self.assertTrue(support.is_pair(least))
        self.assertEqual((bend.degree, bend.marks), (degree, tuple(support.pair_of(support.frac(m)) for m in marks)))
        self.assertEqual(max(misses(bend, points)), support.frac(least), (degree, marks, points))
        self.assertGreaterEqual(least[0], 0)
        if least[0] > 0:
            paper = weighing(degree, marks, points, least)
            self.assertTrue(all(support.is_pair(worth) for worth in paper))
            self.assertTrue(is_weighing(degree, marks, points, least, paper), (degree, marks, points, paper))
            self.assertIs(weighing_holds(degree, marks, points, least, paper), True)
        return support.frac(least)

    def test_told(self):
        for degree, marks, points, least in (
                (1, [0, 2], SOME, Fraction(1, 2)), (1, [0, 1, 2], SOME, 0), (0, [0, 2], SOME, Fraction(1, 2)),
                (2, [0, 2], SOME, 0), (0, [0, 2], [(1, 5)], 0), (0, [0, 2], [(0, 1), (2, 5)], 2),
                (0, [0, 2], [(0, -3), (1, 4), (2, 1)], Fraction(7, 2)), (1, [0, 1], [(0, 1), (1, 2)], 0),
                (1, [0, 3], [(0, 0), (1, 1), (2, 0), (3, 1)], Fraction(1, 2)),
                (0, [0, 1], [((1, 3), 7), ((1, 2), 7)], 0), (1, [0, 1, 2], [(0, 0), ((1, 3), 1), ((2, 3), 0),
                (2, 9)], Fraction(1, 2)), (1, [0, 1, 2], [(0, 0), ((1, 2), 1), (1, 0), ((3, 2), 3),
                (2, 0)], Fraction(3, 2))):
            self.assertEqual(self.check(degree, marks, points), least, (degree, marks, points))

    def test_many(self):
        kinds = [self.check(*case) == 0 for case in cases()]
        self.assertGreater(min(kinds.count(True), kinds.count(False)), 100)

    def test_one_point(self):
        for degree in range(5):
            for marks in support.mark_rows(degree):
                for time in (marks[0], marks[-1], marks[1]):
                    self.assertEqual(self.check(degree, marks, [(time, (-7, 3))]), 0)

    def test_points_of_a_bend_miss_nothing(self):
        for bend in support.many_bends()[::6]:
            times = support.asked_times(bend.marks)[::2]
            points = [(support.pair_of(t), support.pair_of(support.curve(bend, t))) for t in times]
            self.assertEqual(self.check(bend.degree, bend.marks, points), 0)
            self.assertIsNone(weighing(bend.degree, bend.marks, points, (1, 999999999)))
            # One point is moved: with more points than handles between them, all bends miss then.
            (time, height), at = points[len(points) // 2], len(points) // 2
            moved = points[:at] + [(time, support.pair_of(support.frac(height) + 1))] + points[at + 1:]
            self.assertLessEqual(self.check(bend.degree, bend.marks, moved), Fraction(1, 2))

    def test_as_many_as_handles_and_one_more(self):
        for bend in support.many_bends()[::7]:
            times = homes(bend)
            self.assertTrue(can_pass(bend.degree, bend.marks, times))
            heights = [(-1) ** k for k in range(len(times))]
            self.assertEqual(self.check(bend.degree, bend.marks, list(zip(times, heights))), 0)
            if bend.degree > 0:
                last = support.frac(times[-1])
                more = list(times[:-1]) + [support.pair_of((support.frac(times[-2]) + last) / 2), times[-1]]
                heights = [(-1) ** k for k in range(len(more))]
                least = self.check(bend.degree, bend.marks, list(zip(more, heights)))
                self.assertTrue(0 < least <= 1)

    def test_as_of_chebyshev(self):
        # Straight and bent curves nearest to heights that go up and down miss all of them, by turns.
        for degree in range(5):
            points = [((k, degree + 1), (-1) ** k * 3) for k in range(degree + 2)]
            points = [(support.pair_of(Fraction(*time)), height) for time, height in points]
            self.assertEqual(self.check(degree, [0, 1], points), 3)
            self.assertEqual(set(misses(nearest(degree, [0, 1], points), points)), {3})
            squares = [(time, support.pair_of(support.frac(time) ** (degree + 1))) for time, _ in points]
            self.assertGreater(self.check(degree, [0, 1], squares), 0)

    def test_forms_do_not_matter(self):
        for degree, marks, points in cases(6)[::9]:
            bend = Bend(degree, marks, [0] * (degree + len(marks) - 1))
            finer = raised(bend)
            self.assertLessEqual(self.check(finer.degree, finer.marks, points), self.check(degree, marks, points))
            turned = [(time, support.pair_of(3 - 2 * support.frac(height))) for time, height in points]
            self.assertEqual(self.check(degree, marks, turned), 2 * self.check(degree, marks, points))


class Weighing(unittest.TestCase):
    def test_just_if_the_least_miss_is_not_less(self):
        for degree, marks, points in cases(6)[::3]:
            least = support.frac(least_miss(degree, marks, points))
            for worth in (least, least / 2, least * 2, least + Fraction(1, 999999999), least - Fraction(1, 999999999),
                          1):
                if worth > 0:
                    told = support.pair_of(Fraction(worth))
                    paper = weighing(degree, marks, points, told)
                    self.assertIs(paper is None, least < worth)
                    if paper is not None:
                        self.assertTrue(is_weighing(degree, marks, points, told, paper))
                    self.assertIs(weighing_holds(degree, marks, points, told, paper), paper is not None)

    def test_what_a_weighing_shows(self):
        for degree, marks, points in cases(6)[::9]:
            least = least_miss(degree, marks, points)
            for handles in support.handle_rows(degree + len(marks) - 1)[:6] if least[0] else []:
                self.assertGreaterEqual(max(misses(Bend(degree, marks, handles), points)), support.frac(least))

    def test_holds(self):
        quarter, half = (1, 4), (1, 2)
        good = ((-1, 4), half, (-1, 4))
        for worth, thing, wanted in (
                (half, good, True), (quarter, good, True), ((1, 10 ** 9), good, True), (1, good, False),
                ((500000001, 10 ** 9), good, False), (half, list(good), False),
                (half, (quarter, (-1, 2), quarter), False), (half, ((-1, 4), half, quarter), False), (half, ((-1, 2),
                1, (-1, 2)), False), (half, (-1, 2, -1), False),
                (half, ((-1, 8), quarter, (-1, 8)), False), (half, good[:2], False), (half, good + (0,), False),
                (half, (0, 1, 0), False), (half, (0, 0, 0), False), (half, (), False), (half, None, False),
                (half, ((-1, 4), (2, 4), (-1, 4)), False), (half, ((-1, 4), half, None), False),
                (half, (good,), False)):
            self.assertIs(weighing_holds(1, [0, 2], SOME, worth, thing), wanted, (worth, thing))
            self.assertIs(is_weighing(1, [0, 2], SOME, worth, thing), wanted, (worth, thing))
        # Just one handle, so the whole numbers 1 and 0 can weigh too, but not by themselves.
        for thing, wanted in (((half, (-1, 2)), True), ((1, 0), False), ((1, -1), False), (((-1, 2), half), False)):
            self.assertIs(weighing_holds(0, [0, 1], [(0, 3), (1, 1)], 1, thing), wanted, thing)

    def test_of_other_points(self):
        for degree, marks, points in cases(6)[::11]:
            papers = [weighing(degree, marks, other, (1, 999)) for other in point_rows(degree, marks, 6)[::2]]
            for paper in papers:
                for thing in (paper, paper and paper[::-1], paper and paper[1:], paper and paper + (0,),
                              paper and [*paper]):
                    self.assertIs(weighing_holds(degree, marks, points, (1, 999), thing),
                                  is_weighing(degree, marks, points, (1, 999), thing))

    def test_any_value_at_all(self):
        for degree, marks, points in ((1, [0, 2], SOME), (0, [0, 2], [(1, 1)]), (0, [0, 2], [(0, 3), (1, 1)])):
            for thing in support.no_values() + support.no_sequences_of_values():
                for tried in (thing, (thing,), (thing,) * len(points), ((-1, 4), (1, 2), thing), (thing, (-1, 2))):
                    wanted = is_weighing(degree, marks, points, (1, 2), tried)
                    self.assertIs(weighing_holds(degree, marks, points, (1, 2), tried), wanted, tried)


class WrongPoints(unittest.TestCase):
    def check(self, points, at):
        kept = repr(points)
        for degree, marks in ((1, [0, 2]), (2, [0, 1, 2]), (0, [0, 2])):
            for ask in (lambda: least_miss(degree, marks, points), lambda: nearest(degree, marks, points),
                        lambda: weighing(degree, marks, points, 1),
                        lambda: weighing_holds(degree, marks, points, 1, (1,)),
                        lambda: weighing_holds(degree, marks, points, 1, None)):
                with self.assertRaises(InvalidPoints) as caught:
                    ask()
                self.assertEqual((type(caught.exception), caught.exception.at), (InvalidPoints, at), points)
        self.assertEqual(repr(points), kept)

    def test_told(self):
        for points, at in (
                ([], 0), ((), 0), ([(0, 0), (0, 1)], 1), ([(1, 0), (0, 1)], 1), ([(0, 0), (1, 0), (1, 0)], 2),
                ([(-1, 0), (1, 0)], 0), ([(0, 0), (3, 0)], 1), ([(0, 0), ((2001, 1000), 0)], 1), ([(0, 0), [1, 0]], 1),
                ([[0, 0], (1, 0)], 0), ([(0, 0), (1,)], 1), ([(0, 0), (1, 0, 0)], 1), ([(0, 0), ()], 1),
                ([(0, 0), 1], 1), ([0, 1], 0), ([(0, None)], 0), ([(0, 0), (1, None)], 1), ([(0, 0), (1, True)], 1),
                ([(0, 0), (True, 1)], 1), ([(0, 0), (1, (2, 4))], 1), ([(0, 0), ((2, 2), 1)], 1), ([(0, 0), (1, 1),
                (2, "2")], 2), ([(0, 0), (1, [1, 2])], 1), ((0, 1), 0), (((0, 1),) * 2, 1), ([None], 0),
                ([(0, 0), (0, None), (5, 1)], 1)):
            self.check(points, at)

    def test_no_sequences(self):
        for thing in (None, True, 0, 7, "", "ab", Bend(0, [0, 2], [1]), InvalidPoints(0), {}, {(0, 0): 1}):
            self.check(thing, 0)

    def test_any_value_at_all(self):
        for thing in support.no_values():
            self.check([(thing, 0)], 0)
            self.check([(0, thing)], 0)
            self.check([(0, 1), (1, 1), (2, thing)], 2)
            # None of these pairs is a time of the stretch together with a value.
            self.check([(0, 1), (2, 1), thing], 2)
        for thing in support.no_sequences_of_values():
            self.check([(0, 0), thing] if isinstance(thing, (list, tuple)) and thing else thing,
                       1 if isinstance(thing, (list, tuple)) and thing else 0)


class PassedOn(unittest.TestCase):
    def test_long_values(self):
        hill, time, points = Bend(2, [0, 1], [0, 2, 0]), (2, 7), []
        for k in range(8):
            time = value(hill, time)
            points.append((time, value(hill, time)) if k % 2 else (time, k))
        points.sort(key=lambda point: support.frac(point[0]))
        for degree, marks in ((0, [0, 1]), (1, [0, 1]), (2, [0, points[3][0], 1])):
            Nearest.check(self, degree, marks, points)
        again = nearest(1, [0, 1], points)
        least = least_miss(1, [0, 1], points)
        paper = weighing(1, [0, 1], points, least)
        self.assertEqual(least_miss(1, [0, 1], [(t, value(again, t)) for t, _ in points]), (0, 1))
        self.assertIs(weighing_holds(1, [0, 1], points, least, paper), True)
        self.assertIs(weighing_holds(1, [0, 1], points, least, paper[::-1]), False)

    def test_more_points(self):
        for degree, marks in ((1, [0, 1]), (3, [0, (1, 3), (1, 3), 1]), (4, [0, 1])):
            points = [(support.pair_of(Fraction(k, 25)), (k * k * 7 + k) % 23 - 11) for k in range(26)]
            self.assertGreater(Nearest.check(self, degree, marks, points), 0)


if __name__ == "__main__":
    unittest.main()
