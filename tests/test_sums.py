"""[12]: sums, differences, products, multiples, slopes and areas of curves."""

import unittest
from fractions import Fraction

from handlebends.bends import Bend, value
from handlebends.errors import Kink, Unlike
from handlebends.marks import cut, joined, least, raised, same, with_mark
from handlebends.pieces import from_pieces, pieces
from handlebends.sums import area, area_to, minus, plus, product, scaled, slope

import support

TOUCH, TENT = Bend(2, [0, 2], [1, -1, 1]), Bend(1, [0, 1, 2], [0, 1, 0])
LINE = Bend(1, [0, 2], [-1, 1])


class Pairs(unittest.TestCase):
    def check_rule(self, ask, rule, step):
        for low, high in ((0, 2), (Fraction(-7, 3), 5)):
            some = support.over_one_stretch(low, high, step)
            for p in some:
                for q in some:
                    found = ask(p, q)
                    self.assertIs(type(found), Bend)
                    self.assertTrue(support.in_least_form(found), (str(p), str(q)))
                    self.assertEqual((found.marks[0], found.marks[-1]), (p.marks[0], p.marks[-1]))
                    for t in self.times(found, p, q):
                        self.assertEqual(support.curve(found, t), rule(support.curve(p, t), support.curve(q, t)),
                                         (str(p), str(q), t))

    def times(self, found, p, q):
        """Enough times for all of these degrees together."""
        row = sorted({support.frac(mark) for bend in (found, p, q) for mark in bend.marks})
        many = max(found.degree, p.degree + q.degree)
        return [early + (late - early) * Fraction(k, many + 1)
                for early, late in zip(row, row[1:]) for k in range(many + 2)]

    def test_plus(self):
        self.assertEqual(plus(TOUCH, TENT), from_pieces([(0, 1, [1, -1, 1]), (1, 2, [3, -3, 1])]))
        self.assertEqual(plus(TENT, Bend(1, [0, 1, 2], [1, 0, 1])), Bend(0, [0, 2], [1]))
        self.assertEqual(plus(Bend(0, [0, 2], [(1, 2)]), Bend(0, [0, 2], [(1, 2)])), Bend(0, [0, 2], [1]))
        self.check_rule(plus, lambda a, b: a + b, 13)

    def test_minus(self):
        self.assertEqual(minus(TOUCH, TOUCH), Bend(0, [0, 2], [0]))
        self.assertEqual(minus(Bend(0, [0, 2], [1]), TENT), Bend(1, [0, 1, 2], [1, 0, 1]))
        self.assertEqual(minus(with_mark(raised(TOUCH), 1), LINE), from_pieces([(0, 2, [2, -3, 1])]))
        self.check_rule(minus, lambda a, b: a - b, 14)

    def test_product(self):
        self.assertEqual(product(LINE, LINE), TOUCH)
        self.assertEqual(product(TENT, Bend(0, [0, 2], [0])), Bend(0, [0, 2], [0]))
        self.assertEqual(product(TENT, Bend(0, [0, 2], [(-2, 3)])), Bend(1, [0, 1, 2], [0, (-2, 3), 0]))
        self.assertEqual(product(TENT, LINE), from_pieces([(0, 1, [0, -1, 1]), (1, 2, [-2, 3, -1])]))
        self.check_rule(product, lambda a, b: a * b, 16)

    def test_marks_of_one_or_of_both(self):
        p, q = Bend(1, [0, (1, 3), 2], [0, 1, 0]), Bend(1, [0, (1, 3), (1, 2), 2], [1, 0, 0, 1])
        for ask in (plus, minus, product):
            self.assertEqual({mark for mark in ask(p, q).marks}, {(0, 1), (1, 3), (1, 2), (2, 1)})
            self.assertEqual({mark for mark in ask(q, p).marks}, {(0, 1), (1, 3), (1, 2), (2, 1)})

    def test_stretches_that_differ(self):
        for ask in (plus, minus, product):
            for marks in ([0, 3], [1, 2], [0, (3, 2)], [-1, 2], [(1, 2), 3], [2, 4]):
                for p, q in ((TENT, Bend(0, marks, [0])), (Bend(0, marks, [0]), TENT)):
                    with self.assertRaises(Unlike) as caught:
                        ask(p, q)
                    self.assertIs(type(caught.exception), Unlike)


class Scaled(unittest.TestCase):
    def test_told(self):
        self.assertEqual(scaled(TENT, 3), Bend(1, [0, 1, 2], [0, 3, 0]))
        self.assertEqual(scaled(TENT, (-1, 3)), Bend(1, [0, 1, 2], [0, (-1, 3), 0]))
        self.assertEqual(scaled(TENT, 0), Bend(0, [0, 2], [0]))
        self.assertEqual(scaled(with_mark(raised(TOUCH), 1), 1), TOUCH)

    def test_many(self):
        for bend in support.many_bends()[1::3]:
            for number in (0, 1, -2, (3, 7), (-5, 9999)):
                found = scaled(bend, number)
                self.assertTrue(support.in_least_form(found))
                for t in support.shared_times(bend)[::2]:
                    self.assertEqual(support.curve(found, t), support.frac(number) * support.curve(bend, t))


class Slope(unittest.TestCase):
    def test_told(self):
        self.assertEqual(slope(TOUCH), Bend(1, [0, 2], [-2, 2]))
        self.assertEqual(slope(Bend(0, [0, 2], [7])), Bend(0, [0, 2], [0]))
        self.assertEqual(slope(LINE), Bend(0, [0, 2], [1]))
        self.assertEqual(slope(Bend(2, [0, 1, 2], [0, 0, 1, 0])), from_pieces([(0, 1, [0, 1]), (1, 2, [4, -3])]))
        self.assertEqual(slope(Bend(1, [0, 1, 2], [0, 1, 2])), Bend(0, [0, 2], [1]))
        self.assertEqual(slope(raised(raised(with_mark(TOUCH, (1, 2))))), scaled(LINE, 2))

    def first_kink(self, bend):
        """The first inner mark at which the slopes differ, as a pair, or None."""
        rows = pieces(bend)
        for early, late in zip(rows, rows[1:]):
            if support.agreeing(early[2], late[2], support.frac(late[0])) == 0:
                return late[0]
        return None

    def test_many(self):
        some, kinks = 0, 0
        for bend in support.many_bends():
            kink = self.first_kink(bend)
            if kink is not None:
                with self.assertRaises(Kink) as caught:
                    slope(bend)
                self.assertIs(type(caught.exception), Kink)
                self.assertEqual(caught.exception.time, kink)
                kinks += 1
            else:
                found = slope(bend)
                self.assertTrue(support.in_least_form(found))
                self.check_slopes(found, bend)
                some += 1
        self.assertGreater(min(some, kinks), 60)

    def check_slopes(self, found, bend):
        self.assertEqual((found.marks[0], found.marks[-1]), (bend.marks[0], bend.marks[-1]))
        for start, end, powers in pieces(bend):
            early, late = support.frac(start), support.frac(end)
            for k in range(bend.degree + 1):
                t = early + (late - early) * Fraction(k, max(bend.degree, 1))
                self.assertEqual(support.curve(found, t), (support.slopes(powers, t) + [0])[0], (str(bend), t))

    def test_the_first_kink(self):
        bend = Bend(1, [0, 1, 2, 3, 4], [0, 1, 2, 5, 1])
        with self.assertRaises(Kink) as caught:
            slope(bend)
        self.assertEqual(caught.exception.time, (2, 1))
        with self.assertRaises(Kink) as caught:
            slope(Bend(1, [0, (1, 2), 1, 2], [0, 1, 2, 5]))
        self.assertEqual(caught.exception.time, (1, 1))
        with self.assertRaises(Kink) as caught:
            slope(from_pieces([(0, (1, 2), [0]), ((1, 2), 2, [(1, 2), -1, 0]), (2, 3, [(-3, 2)])]))
        self.assertEqual(caught.exception.time, (1, 2))

    def test_later_slopes_may_differ(self):
        # 0, then (t - 1) ** 2: only the second slopes differ.
        bend = from_pieces([(0, 1, [0]), (1, 2, [1, -2, 1])])
        self.assertEqual(slope(bend), from_pieces([(0, 1, [0]), (1, 2, [-2, 2])]))
        with self.assertRaises(Kink):
            slope(slope(bend))


class Area(unittest.TestCase):
    def by_powers(self, bend, t):
        """The area up to a time, by the powers of the pieces."""
        result = Fraction(0)
        for start, end, powers in pieces(bend):
            grown = [0] + [support.frac(worth) / (k + 1) for k, worth in enumerate(powers)]
            early, late = support.frac(start), min(support.frac(end), t)
            if early < late:
                result += support.polynomial(grown, late) - support.polynomial(grown, early)
        return result

    def test_told(self):
        self.assertEqual(area(TOUCH), (2, 3))
        self.assertEqual(area(TENT), (1, 1))
        self.assertEqual(area(LINE), (0, 1))
        self.assertEqual(area(Bend(0, [(-1, 2), 2], [(-3, 7)])), (-15, 14))
        self.assertEqual(area(Bend(1, [0, 1, 3], [0, 1, -1])), (1, 2))
        self.assertEqual(area_to(TENT), from_pieces([(0, 1, [0, 0, (1, 2)]), (1, 2, [-1, 2, (-1, 2)])]))
        self.assertEqual(area_to(Bend(0, [1, 3], [2])), Bend(1, [1, 3], [0, 4]))
        self.assertEqual(area_to(Bend(0, [1, 3], [0])), Bend(0, [1, 3], [0]))
        self.assertEqual(area_to(slope(TOUCH)), Bend(2, [0, 2], [0, -2, 0]))

    def test_many(self):
        for bend in support.many_bends()[::2]:
            self.assertEqual(area(bend), support.pair_of(self.by_powers(bend, support.frac(bend.marks[-1]))))
            found = area_to(bend)
            self.assertIs(type(found), Bend)
            self.assertTrue(support.in_least_form(found))
            for t in support.shared_times(found, bend):
                self.assertEqual(support.curve(found, t), self.by_powers(bend, t), (str(bend), t))

    def test_slope_and_area_undo_one_another(self):
        for bend in support.many_bends():
            self.assertEqual(slope(area_to(bend)), least(bend))
            self.assertEqual(value(area_to(bend), bend.marks[-1]), area(bend))

    def test_parts(self):
        for bend in support.many_bends()[::5]:
            for t in support.asked_times(bend.marks)[1:-1:5]:
                left, right = cut(bend, support.pair_of(t))
                self.assertEqual(support.frac(area(left)) + support.frac(area(right)), support.frac(area(bend)))
                self.assertEqual(value(area_to(bend), support.pair_of(t)), area(left))


class Together(unittest.TestCase):
    def test_laws(self):
        some = support.over_one_stretch(0, 2, 11)
        for p, q, r in zip(some, some[3:], some[7:]):
            self.assertEqual(plus(p, q), plus(q, p))
            self.assertEqual(minus(p, q), scaled(minus(q, p), -1))
            self.assertEqual(product(plus(p, q), r), plus(product(p, r), product(q, r)))
            self.assertTrue(same(plus(minus(p, q), q), p))
            self.assertEqual(plus(p, p), scaled(p, 2))
            self.assertEqual(area(plus(p, q)), value(plus(area_to(p), area_to(q)), 2))

    def test_returned_ones_are_passed_on(self):
        some = TENT
        for _ in range(4):
            some = product(some, some)
        self.assertEqual((some.degree, value(some, (1, 2)), value(some, (3, 2))), (16, (1, 2 ** 16), (1, 2 ** 16)))
        self.assertEqual(area(some), (2, 17))
        self.assertEqual(slope(area_to(some)), some)
        long = scaled(some, area(product(some, some)))
        self.assertEqual(value(long, 1), (2, 33))
        self.assertEqual(joined(*cut(long, (1, 3))), long)


if __name__ == "__main__":
    unittest.main()
