"""[19] and [20]: through which times curves can pass, the curve, bars, and what tells whether a value is one."""

import itertools
import unittest
from fractions import Fraction

from handlebends.bends import Bend, homes, value
from handlebends.errors import InvalidPoints
from handlebends.marks import raised
from handlebends.points import bar_holds, barred, can_pass, passing

import support

BARRED = (2, [0, 1, 2], [0, (1, 4), (1, 2), (3, 4)])


def rows_of_times(degree, marks):
    """Rows of as many ascending times as there are handles: marks and times between them, here and there."""
    many = degree + len(marks) - 1
    row = sorted({support.frac(mark) for mark in marks})
    pool = set(row)
    for early, late in zip(row, row[1:]):
        pool |= {early + (late - early) * Fraction(k, 7) for k in (1, 3, 6)}
    while len(pool) < many + 2:
        pool |= {(early + late) / 2 for early, late in zip(sorted(pool), sorted(pool)[1:])}
    found = [list(some) for some in itertools.combinations(sorted(pool), many)]
    return found[::max(len(found) // 12, 1)] + found[-1:]


def cases():
    """Degrees, marks, and rows of times for them in Fractions."""
    return [(degree, marks, times) for degree in range(5) for marks in support.mark_rows(degree)
            for times in rows_of_times(degree, marks)]


def has_one_solution(rows):
    """Whether a square of Fractions can be undone."""
    rest = [list(row) for row in rows]
    for at in range(len(rows)):
        head = next((k for k, row in enumerate(rest) if row[at] != 0), None)
        if head is None:
            return False
        top = rest.pop(head)
        rest = [[a - row[at] / top[at] * b for a, b in zip(row, top)] for row in rest]
    return True


def is_bar(degree, marks, times, thing):
    """Whether any value at all is a bar, word for word as [19] has it."""
    worths = support.values_told(thing)
    if worths is None or len(worths) != len(times) or not any(worths):
        return False
    rows = [support.all_weights(degree, tuple(marks), support.frac(t)) for t in times]
    return all(sum(row[at] * worth for row, worth in zip(rows, worths)) == 0 for at in range(len(times)))


def pairs(times):
    """Fractions as pairs."""
    return [support.pair_of(t) for t in times]


class CanPass(unittest.TestCase):
    def test_told(self):
        for degree, marks, times, wanted in (
                (2, [0, 1, 2], [0, (1, 2), 1, 2], True), (*BARRED, False), (0, [0, 2], [0], True),
                (0, [0, 2], [2], True),
                (0, [0, 2], [(1, 3)], True), (1, [0, 1], [0, 1], True), (1, [0, 1], [(1, 3), (1, 2)], True),
                (1, [0, 1, 2], [0, 1, 2], True), (1, [0, 1, 2], [0, (1, 2), 2], True),
                (1, [0, 1, 2], [0, (1, 2), 1], False),
                (1, [0, 1, 2], [0, (1, 2), (1001, 1000)], True), (1, [0, 1, 2], [1, (3, 2), 2], False),
                (1, [0, 1, 2], [(999, 1000), (3, 2), 2], True), (1, [0, 1, 2], [0, (1, 4), (1, 2)], False),
                (2, [0, 1, 1, 2], [0, (1, 2), 1, (3, 2), 2], True), (2, [0, 1, 1, 2], [0, (1, 2), (3, 4), 1, 2], False),
                (2, [0, 1, 1, 2], [0, 1, (5, 4), (3, 2), 2], False),
                (2, [0, 1, 1, 2], [0, (1, 3), 1, (5, 4), (3, 2)], True),
                (2, [0, 1, 1, 2], [0, (1, 3), (2, 3), (5, 4), (3, 2)], True),
                (2, [0, 1, 1, 2], [0, (1, 4), (1, 3), (2, 3), (3, 2)], False)):
            self.assertIs(can_pass(degree, marks, times), wanted, (degree, marks, times))

    def test_just_if_heights_tell_the_handles(self):
        kinds = []
        for degree, marks, times in cases():
            rows = [support.all_weights(degree, tuple(marks), t) for t in times]
            found = can_pass(degree, marks, pairs(times))
            self.assertIs(found, has_one_solution(rows), (degree, marks, times))
            self.assertIs(found, all(row[k] > 0 for k, row in enumerate(rows)))
            kinds.append(found)
        self.assertGreater(min(kinds.count(True), kinds.count(False)), 50)


class Passing(unittest.TestCase):
    def test_told(self):
        self.assertEqual(passing(1, [0, 1, 2], [0, 1, 2], [0, 1, 0]), Bend(1, [0, 1, 2], [0, 1, 0]))
        self.assertEqual(passing(2, [0, 2], (0, 1, 2), (1, 0, 1)), Bend(2, [0, 2], [1, -1, 1]))
        self.assertEqual(passing(0, [0, 2], [(1, 3)], [(-2, 5)]), Bend(0, [0, 2], [(-2, 5)]))
        self.assertIsNone(passing(*BARRED, [0, 0, 0, 0]))
        self.assertIsNone(passing(1, [0, 1, 2], [0, (1, 2), 1], [0, 1, 2]))

    def test_many(self):
        for degree, marks, times in cases():
            many = range(len(times))
            for heights in ([(-1) ** k * k for k in many], [Fraction(k * k + 1, k + 2) for k in many]):
                found = passing(degree, marks, pairs(times), pairs(map(Fraction, heights)))
                if not can_pass(degree, marks, pairs(times)):
                    self.assertIsNone(found)
                    continue
                self.assertEqual((found.degree, found.marks), (degree, tuple(pairs(map(support.frac, marks)))))
                self.assertEqual([support.curve(found, t) for t in times], heights)

    def test_bends_are_found_again(self):
        for bend in support.many_bends()[::5]:
            for times in rows_of_times(bend.degree, bend.marks)[::4]:
                heights = [value(bend, time) for time in pairs(times)]
                found = passing(bend.degree, bend.marks, pairs(times), heights)
                self.assertEqual(found, bend if can_pass(bend.degree, bend.marks, pairs(times)) else None)


class Bars(unittest.TestCase):
    def test_many(self):
        for degree, marks, times in cases():
            found = barred(degree, marks, pairs(times))
            if can_pass(degree, marks, pairs(times)):
                self.assertIsNone(found)
            else:
                self.assertTrue(all(support.is_pair(worth) for worth in found))
                self.assertTrue(is_bar(degree, marks, times, found), (degree, marks, times))
                self.assertIs(bar_holds(degree, marks, pairs(times), found), True)

    def test_what_a_bar_shows(self):
        for degree, marks, times in cases()[::3]:
            found = barred(degree, marks, pairs(times))
            for handles in support.handle_rows(len(times))[:6] if found else []:
                bend = Bend(degree, marks, handles)
                heights = [support.curve(bend, t) for t in times]
                self.assertEqual(sum(height * support.frac(worth) for height, worth in zip(heights, found)), 0)

    def test_holds(self):
        for thing, wanted in (
                ((1, -3, 3, -1), True), (((1, 1), (-3, 1), (3, 1), (-1, 1)), True), (((1, 3), -1, 1, (-1, 3)), True),
                ((-2, 6, -6, 2), True), ([1, -3, 3, -1], False), ((0, 0, 0, 0), False), ((1, -3, 3, -2), False),
                ((1, -3, 3), False), ((1, -3, 3, -1, 0), False), ((), False), ((-1, 3, -3, 1), True),
                ((3, -1, 1, -3), False), (((2, 2), -3, 3, -1), False), ((True, -3, 3, -1), False), (None, False),
                ((1, -3, 3, None), False), ((1, -3, [3], -1), False), (((1, -3, 3, -1),), False)):
            self.assertIs(bar_holds(*BARRED, thing), wanted, thing)

    def test_of_other_times(self):
        for degree, marks, times in cases()[::11]:
            bars = [barred(degree, marks, pairs(other)) for other in rows_of_times(degree, marks)]
            for bar in bars + [(1,) * len(times), (0,) * len(times), (1,) + (0,) * (len(times) - 1)]:
                for thing in (bar, bar and bar[::-1], bar and bar[1:], bar and bar + bar[:1], bar and list(bar)):
                    self.assertIs(bar_holds(degree, marks, pairs(times), thing), is_bar(degree, marks, times, thing))

    def test_any_value_at_all(self):
        for degree, marks, times in (BARRED, (0, [0, 2], [1]), (1, [0, 1, 2], [0, (1, 2), 1]), (1, [0, 1], [0, 1])):
            for thing in support.no_values() + support.no_sequences_of_values():
                for tried in (thing, (thing,), (thing,) * len(times), (1, -3, 3, thing), (1, thing, 1), (0, thing)):
                    wanted = is_bar(degree, marks, times, tried)
                    self.assertIs(bar_holds(degree, marks, times, tried), wanted, (times, tried))


class WrongTimes(unittest.TestCase):
    def check(self, degree, marks, times, at):
        asked = (lambda: can_pass(degree, marks, times), lambda: passing(degree, marks, times, [0] * 9),
                 lambda: barred(degree, marks, times), lambda: bar_holds(degree, marks, times, (1, 2)),
                 lambda: bar_holds(degree, marks, times, None))
        kept = repr(times)
        for ask in asked:
            with self.assertRaises(InvalidPoints) as caught:
                ask()
            self.assertEqual((type(caught.exception), caught.exception.at), (InvalidPoints, at), times)
        self.assertEqual(repr(times), kept)

    def test_told(self):
        for times, at in (
                ([], 0), ((), 0), ([0], 1), ([0, 1], 2), ([0, 1, 2, 3], 3), ([0, (1, 2), 1, 2], 4), ([0, 0, 1], 1),
                ([0, 1, 1], 2), ([1, 0, 2], 1), ([0, 2, 1], 2), ([-1, 1, 2], 0), ([0, 1, 3], 2),
                ([0, 1, (2001, 1000)], 2), ([(-1, 1000), 1, 2], 0), ([0, (2, 2), 2], 1), ([0, (1, 2, 3), 2], 1),
                ([0, True, 2], 1), ([False, 1, 2], 0),
                ([0, "1", 2], 1), ([0, None, 2], 1), ([0, [1, 2], 2], 1), ([None], 0), ([0, 1, None, 2, 3], 2),
                ([0, 1, 2, None], 3), ([0, 1, 2, 2], 3), ([0, 1, 2, 1], 3), ([0, (1, 2), 1, (3, 2), 2], 5),
                ([[0, 1, 2]], 0), ([0, Bend(0, [0, 1], [0]), 1], 1), ([0, (1, 0), 1], 1), ([0, (1, -1), 1], 1)):
            self.check(1, [0, 1, 2], times, at)
            self.check(2, [0, 2], times, at)

    def test_no_sequences(self):
        some = Bend(0, [0, 2], [1]), InvalidPoints(0), {}, {0: 1}, range(3)
        for thing in (None, True, False, 0, 1, -3, "", "012", *some):
            self.check(1, [0, 1, 2], thing, 0)

    def test_any_value_at_all(self):
        for thing in support.no_values():
            self.check(1, [0, 1, 2], [thing, 1, 2], 0)
            # A half is no such thing by chance, since it is not greater than 1.
            self.check(1, [0, 1, 2], [0, 1, thing], 2)
            self.check(1, [0, 1, 2], (0, 1, 2, thing), 3)
            self.check(1, [0, 1, 2], (0, thing), 1)
        for thing in support.no_sequences_of_values():
            self.check(0, [0, 2], [thing] if thing not in (0, 1, 10 ** 12, -3) else [-3], 0)


class PassedOn(unittest.TestCase):
    def test_homes(self):
        for bend in support.many_bends()[::4] + [raised(raised(bend)) for bend in support.many_bends()[::40]]:
            times = homes(bend)
            self.assertIs(can_pass(bend.degree, bend.marks, times), True)
            self.assertEqual(passing(bend.degree, bend.marks, times, [value(bend, time) for time in times]), bend)

    def test_long_values(self):
        hill, time, times = Bend(2, [0, 1], [0, 2, 0]), (2, 7), []
        for _ in range(8):
            time = value(hill, time)
            times.append(support.frac(time))
        times = sorted(times)[:5]
        self.assertGreater(max(t.denominator for t in times), 10 ** 200)
        found = passing(4, [0, 1], pairs(times), [0, 1, 0, -1, 5])
        self.assertEqual([support.curve(found, t) for t in times], [0, 1, 0, -1, 5])
        marks = [0, pairs(times)[4], 1]
        bar = barred(3, marks, pairs(times))
        self.assertTrue(is_bar(3, [(0, 1), marks[1], (1, 1)], pairs(times), bar))
        self.assertIs(bar_holds(3, marks, times=pairs(times), value=bar), True)


if __name__ == "__main__":
    unittest.main()
