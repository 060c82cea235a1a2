"""[6] and [7]: values, weights, reaches and homes."""

import unittest
from fractions import Fraction

from handlebends.bends import Bend, homes, reach, value, weights
from handlebends.errors import InvalidTime

import support


class Told(unittest.TestCase):
    """Weights and values reckoned by hand."""

    def test_degree_nought(self):
        self.assertEqual(weights(0, [0, 2], 0), ((1, 1),))
        self.assertEqual(weights(0, [0, 2], 2), ((1, 1),))
        self.assertEqual(value(Bend(0, [0, 2], [(-3, 7)]), 1), (-3, 7))

    def test_degree_one(self):
        self.assertEqual(weights(1, [0, 1, 3], 0), ((1, 1), (0, 1), (0, 1)))
        self.assertEqual(weights(1, [0, 1, 3], (1, 4)), ((3, 4), (1, 4), (0, 1)))
        self.assertEqual(weights(1, [0, 1, 3], 1), ((0, 1), (1, 1), (0, 1)))
        self.assertEqual(weights(1, [0, 1, 3], (3, 2)), ((0, 1), (3, 4), (1, 4)))
        self.assertEqual(weights(1, [0, 1, 3], 3), ((0, 1), (0, 1), (1, 1)))

    def test_degree_two(self):
        self.assertEqual(weights(2, [0, 1], (1, 3)), ((4, 9), (4, 9), (1, 9)))
        self.assertEqual(weights(2, [0, 1, 2], 1), ((0, 1), (1, 2), (1, 2), (0, 1)))
        self.assertEqual(weights(2, [0, 1, 1, 2], 1), ((0, 1), (0, 1), (1, 1), (0, 1), (0, 1)))
        self.assertEqual(weights(2, [0, 1, 1, 2], (1, 2)), ((1, 4), (1, 2), (1, 4), (0, 1), (0, 1)))

    def test_degrees_three_and_four(self):
        self.assertEqual(weights(3, [0, 1], (1, 2)), ((1, 8), (3, 8), (3, 8), (1, 8)))
        self.assertEqual(weights(4, [0, 1], (1, 2)), ((1, 16), (1, 4), (3, 8), (1, 4), (1, 16)))

    def test_values(self):
        bend = Bend(1, [0, 1, 2], [0, 1, 0])
        self.assertEqual([value(bend, time) for time in (0, (1, 3), 1, (3, 2), 2)],
                         [(0, 1), (1, 3), (1, 1), (1, 2), (0, 1)])
        self.assertEqual(value(Bend(2, [0, 2], [2, -1, 2]), (1, 2)), (7, 8))


class BySums(unittest.TestCase):
    def test_weights(self):
        for degree in range(5):
            for marks in support.mark_rows(degree):
                for t in support.asked_times(marks):
                    found = weights(degree, marks, support.pair_of(t))
                    wanted = tuple(support.pair_of(w) for w in support.all_weights(degree, marks, t))
                    self.assertEqual(found, wanted, (degree, marks, t))

    def test_weights_are_means(self):
        for degree in range(5):
            for marks in support.mark_rows(degree):
                u = support.knots(degree, marks)
                for t in support.asked_times(marks):
                    found = [support.frac(w) for w in weights(degree, marks, support.pair_of(t))]
                    self.assertEqual(len(found), degree + len(marks) - 1)
                    self.assertEqual(sum(found), 1)
                    self.assertTrue(all(w >= 0 for w in found))
                    self.assertTrue(all(w == 0 for i, w in enumerate(found) if not u[i] <= t <= u[i + degree + 1]))

    def test_values(self):
        for bend in support.many_bends():
            for t in support.asked_times(bend.marks)[::2] + [support.frac(bend.marks[-1])]:
                self.assertEqual(value(bend, support.pair_of(t)), support.pair_of(support.curve(bend, t)), str(bend))

    def test_curve_goes_from_the_first_handle_to_the_last_one(self):
        for bend in support.many_bends():
            self.assertEqual(value(bend, bend.marks[0]), bend.handles[0])
            self.assertEqual(value(bend, bend.marks[-1]), bend.handles[-1])

    def test_curve_passes_the_handle_of_a_full_mark(self):
        for degree in range(1, 5):
            marks = [0] + [1] * degree + [3]
            bend = Bend(degree, marks, list(range(10, 10 + 2 * degree + 1)))
            self.assertEqual(value(bend, 1), (10 + degree, 1))

    def test_curve_does_not_jump(self):
        near = Fraction(1, 999999999)
        for bend in support.many_bends():
            for mark in bend.marks[1:-1]:
                t = support.frac(mark)
                here = support.frac(value(bend, mark))
                for beside in (t - near, t + near):
                    self.assertLess(abs(support.frac(value(bend, support.pair_of(beside))) - here), Fraction(1, 10000))

    def test_integers_for_times(self):
        bend = Bend(2, [-1, 0, 2], [1, 2, 3, 5])
        for time in (-1, 0, 1, 2):
            self.assertEqual(value(bend, time), value(bend, (time, 1)))
            self.assertEqual(weights(2, [-1, 0, 2], time), weights(2, ((-1, 1), (0, 1), (2, 1)), (time, 1)))


class WrongTimes(unittest.TestCase):
    def check(self, bend, time):
        with self.assertRaises(InvalidTime, msg=time) as caught:
            value(bend, time)
        self.assertIs(caught.exception.time, time)
        with self.assertRaises(InvalidTime, msg=time) as caught:
            weights(bend.degree, bend.marks, time)
        self.assertIs(caught.exception.time, time)

    def test_no_values(self):
        for bend in (Bend(0, [-5, 5], [1]), Bend(2, [-5, 0, 5], [1, 2, 3, 4])):
            for thing in support.no_values():
                self.check(bend, thing)

    def test_outside(self):
        for bend in (Bend(0, [0, 1], [1]), Bend(3, [0, (1, 2), 1], [1, 2, 3, 4, 5])):
            for time in (-1, 2, (-1, 2), (3, 2), (-1, 999999999), (1000000000, 999999999), 10 ** 30, -10 ** 30):
                self.check(bend, time)

    def test_ends_that_are_fractions(self):
        bend = Bend(1, [(-1, 3), (2, 7)], [0, 1])
        self.assertEqual((value(bend, (-1, 3)), value(bend, (2, 7))), ((0, 1), (1, 1)))
        for time in ((-2, 5), (1, 3), (-34, 100), -1, 1, (-100000001, 300000000)):
            self.check(bend, time)


class Reaches(unittest.TestCase):
    def test_told(self):
        marks = [0, 1, 1, 2]
        self.assertEqual([reach(2, marks, i) for i in range(5)],
                         [((0, 1), (1, 1)), ((0, 1), (1, 1)), ((0, 1), (2, 1)), ((1, 1), (2, 1)), ((1, 1), (2, 1))])
        self.assertEqual(reach(0, [(-1, 2), 3], 0), ((-1, 2), (3, 1)))

    def test_knots(self):
        for degree in range(5):
            for marks in support.mark_rows(degree):
                u = support.knots(degree, marks)
                for i in range(degree + len(marks) - 1):
                    wanted = (support.pair_of(u[i]), support.pair_of(u[i + degree + 1]))
                    self.assertEqual(reach(degree, marks, i), wanted)
                    self.assertEqual(reach(degree, tuple(marks), i), wanted)


class Homes(unittest.TestCase):
    def test_told(self):
        self.assertEqual(homes(Bend(2, [0, 2], [1, -1, 1])), ((0, 1), (1, 1), (2, 1)))
        self.assertEqual(homes(Bend(1, [0, (1, 3), 1], [5, 5, 5])), ((0, 1), (1, 3), (1, 1)))
        self.assertEqual(homes(Bend(3, [0, 1, 2], [0] * 5)), ((0, 1), (1, 3), (1, 1), (5, 3), (2, 1)))

    def test_degree_nought(self):
        self.assertEqual(homes(Bend(0, [0, 2], [7])), ((1, 1),))
        self.assertEqual(homes(Bend(0, [(-1, 3), (1, 2)], [7])), ((1, 12),))

    def test_means(self):
        for bend in support.many_bends():
            u = support.knots(bend.degree, bend.marks)
            if bend.degree:
                wanted = [sum(u[i + 1:i + bend.degree + 1]) / bend.degree for i in range(len(bend))]
            else:
                wanted = [(u[0] + u[-1]) / 2]
            self.assertEqual(homes(bend), tuple(support.pair_of(home) for home in wanted))

    def test_curve_of_the_homes_is_time(self):
        for degree in range(1, 5):
            for marks in support.mark_rows(degree):
                times = homes(Bend(degree, marks, [0] * (degree + len(marks) - 1)))
                for t in support.asked_times(marks):
                    self.assertEqual(value(Bend(degree, marks, times), support.pair_of(t)), support.pair_of(t))


if __name__ == "__main__":
    unittest.main()
