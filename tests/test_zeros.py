"""[13] and [14]: signs, crossings and touches, zero places, what tells them, and the first one."""

import itertools
import unittest
from fractions import Fraction

from handlebends.bends import Bend, value
from handlebends.marks import cut, raised, with_mark
from handlebends.pieces import from_pieces
from handlebends.sums import minus, product, scaled
from handlebends.zeros import crossings, first_zero, places, places_hold, sign_row, touches

import support
from zeros_by_handles import Zeros, drawn, rooted, zero_bends

TOUCH, DEEP = Bend(2, [0, 2], [1, -1, 1]), Bend(2, [0, 2], [1, -3, 1])
TENT, NOUGHT = Bend(1, [0, 1, 2], [0, 1, 0]), Bend(0, [0, 2], [0])
# Above nought, nought from 1 to 2, below it; nought at 0, at 1/2 and from 1 to 2.
FLAT = Bend(1, [0, 1, 2, 3], [1, 0, 0, -1])
MIXED = from_pieces([(0, 1, [0, (-1, 1), 2]), (1, 2, [1])]), drawn((0, 1, rooted([0, Fraction(1, 2), 1])), (1, 2, [0]))


def all_bends():
    """Bends with zeros of all kinds, and of the many others some."""
    return zero_bends() + support.many_bends()[::4]


def fractions(found):
    """Pairs of values as pairs of Fractions."""
    return [(support.frac(a), support.frac(b)) for a, b in found]


def twice(times):
    """Times in Fractions, each told twice."""
    return tuple((support.pair_of(t), support.pair_of(t)) for t in times)


def pair_told(thing):
    """A tuple of two values as Fractions, None for any other value at all."""
    found = support.values_told(thing)
    return tuple(found) if found is not None and len(found) == 2 else None


class Signs(unittest.TestCase):
    def test_told(self):
        told = [
            (TOUCH, (1, 0, 1)), (DEEP, (1, 0, -1, 0, 1)), (TENT, (0, 1, 0)), (NOUGHT, (0,)),
            (Bend(0, [0, 2], [(1, 9)]), (1,)), (Bend(0, [0, 2], [-5]), (-1,)), (Bend(1, [0, 2], [-1, 1]), (-1, 0, 1)),
            (Bend(1, [0, 2], [0, 1]), (0, 1)), (Bend(1, [0, 2], [-1, 0]), (-1, 0)), (FLAT, (1, 0, -1)),
            (Bend(1, [0, 1, 2, 3], [1, 0, 0, 1]), (1, 0, 1)), (Bend(1, [0, 1, 2, 3], [0, 0, 0, 1]), (0, 1)),
            (Bend(1, [0, 1, 2, 3], [0, 0, 1, 0]), (0, 1, 0)),
            (Bend(1, [0, 1, 2, 3], [1, -1, 1, -1]), (1, 0, -1, 0, 1, 0, -1)),
            (Bend(1, [0, 1, 2], [1, 0, -1]), (1, 0, -1)), (Bend(1, [0, 1, 2], [1, 0, 1]), (1, 0, 1)),
            (Bend(2, [0, 1, 1, 2], [0] * 5), (0,)), (MIXED[0], (0, -1, 0, 1)), (MIXED[1], (0, 1, 0, -1, 0)),
        ]
        for bend, row in told:
            self.assertEqual(sign_row(bend), row, str(bend))

    def test_told_in_another_way(self):
        for bend in all_bends():
            row = sign_row(bend)
            self.assertIs(type(row), tuple)
            self.assertEqual(row, Zeros(bend).signs(), str(bend))

    def test_crossings_and_touches(self):
        told = [
            (TOUCH, 0, 1), (DEEP, 2, 0), (TENT, 0, 0), (NOUGHT, 0, 0), (FLAT, 1, 0), (Bend(0, [0, 2], [3]), 0, 0),
            (Bend(1, [0, 1, 2, 3], [1, 0, 0, 1]), 0, 1), (Bend(1, [0, 1, 2], [-1, 0, -1]), 0, 1), (MIXED[0], 1, 0),
            (MIXED[1], 1, 0), (Bend(1, [0, 1, 2, 3], [1, -1, 1, -1]), 3, 0),
            (Bend(1, [0, 1, 2, 3], [0, 1, 0, 1]), 0, 1),
            (drawn((-2, 2, [4, 0, -4, 0, 1])), 0, 2), (drawn((-2, 2, rooted([-1, 0, 0, 1]))), 2, 1),
            (drawn((-2, 2, rooted([0, 0, 0]))), 1, 0), (drawn((0, 2, rooted([0, 0, 2, 2]))), 0, 0),
        ]
        for bend, over, back in told:
            self.assertEqual((crossings(bend), touches(bend)), (over, back), str(bend))

    def test_crossings_and_touches_are_those_of_the_row(self):
        for bend in all_bends():
            row = Zeros(bend).signs()
            sides = [(row[k - 1], row[k + 1]) for k in range(1, len(row) - 1) if row[k] == 0]
            self.assertEqual(crossings(bend), sum(left != right for left, right in sides))
            self.assertEqual(touches(bend), sum(left == right for left, right in sides))

    def test_forms_do_not_matter(self):
        for bend in zero_bends()[::2]:
            middle = support.pair_of((support.frac(bend.marks[0]) + support.frac(bend.marks[-1])) / 2)
            others = [raised(bend), scaled(bend, (7, 3)), scaled(product(bend, product(bend, bend)), 2)]
            others += [with_mark(raised(bend), middle)] if middle not in bend.marks else []
            for other in others:
                self.assertEqual(sign_row(other), sign_row(bend), str(other))
            self.assertEqual(sign_row(scaled(bend, -1)), tuple(-sign for sign in sign_row(bend)))
            self.assertEqual(sign_row(product(bend, bend)), tuple(sign * sign for sign in sign_row(bend)))


class Places(unittest.TestCase):
    def test_told_where_there_is_one_way(self):
        told = [
            (Bend(0, [0, 2], [3]), ()), (NOUGHT, (((0, 1), (2, 1)),)), (FLAT, (((1, 1), (2, 1)),)),
            (Bend(1, [0, 1, 2, 3], [0, 0, 1, 2]), (((0, 1), (1, 1)),)),
            (Bend(1, [0, 1, 2, 3, 4], [1, 0, 0, 0, 1]), (((1, 1), (3, 1)),)),
            (Bend(1, [0, 1, (3, 2), 3, 4], [0, 0, 1, 0, 0]), (((0, 1), (1, 1)), ((3, 1), (4, 1)))),
        ]
        for bend, found in told:
            self.assertEqual(places(bend), found)

    def test_checked_in_another_way(self):
        for bend in all_bends():
            found = places(bend)
            self.check_kinds(found)
            self.assertTrue(Zeros(bend).holds(fractions(found)), (str(bend), found))
            self.assertIs(places_hold(bend, found), True, (str(bend), found))

    def check_kinds(self, found):
        self.assertIs(type(found), tuple)
        for pair in found:
            self.assertIs(type(pair), tuple)
            for p, q in pair:
                self.assertEqual(Fraction(p, q), Fraction(*support.pair_of(Fraction(p, q))))
                self.assertEqual((type(p), type(q), q), (int, int, Fraction(p, q).denominator))

    def test_as_many_as_nought_in_the_row(self):
        for bend in all_bends():
            self.assertEqual(len(places(bend)), sign_row(bend).count(0))

    def test_near_one_another(self):
        near = Fraction(1, 999999999)
        for gaps in ([near], [near, 2 * near], [Fraction(1, 3), near], [0, near, 0]):
            roots = [Fraction(2, 7)]
            for gap in gaps:
                roots.append(roots[-1] + gap)
            bend = drawn((0, 1, rooted(roots)))
            found = places(bend)
            self.assertTrue(Zeros(bend).holds(fractions(found)))
            self.assertIs(places_hold(bend, twice(sorted(set(roots)))), True)

    def test_high_degrees(self):
        roots = [Fraction(k, 11) for k in range(1, 11)]
        bend = drawn((0, 1, rooted(roots + roots[2:5])))
        self.assertEqual((crossings(bend), touches(bend), len(places(bend))), (7, 3, 10))
        self.assertIs(places_hold(bend, twice(roots)), True)


class PlacesHold(unittest.TestCase):
    def check(self, bend, thing, wanted):
        self.assertIs(places_hold(bend, thing), wanted, (str(bend), thing))

    def test_told(self):
        for thing, wanted in (
                (((1, 1),), True), ((((1, 1), (1, 1)),), True), (((0, 2),), True), ((((1, 2), (5, 4)),), True),
                ((((0, 1), (1, 1)),), True), (((1, (2, 1)),), True), ((((99, 100), 1),), True),
                ((), False), (((0, 0),), False), (((2, 2),), False), ((((1, 2), (1, 2)),), False),
                (((0, (1, 2)),), False), ((((3, 2), 2),), False), (((2, 0),), False),
                ((((5, 4), (1, 2)),), False), (((-1, 1),), False),
                (((1, 3),), False), ((((-1, 2), 3),), False), (((1, 1), (1, 1)), False), (((0, 1), (1, 2)), False)):
            self.check(TOUCH, thing, wanted)

    def test_times_that_are_no_fractions(self):
        # Nought at 1 - r and 1 + r, with r * r = 1 / 2.
        for thing, wanted in (
                (((0, 1), (1, 2)), True), (((0, (1, 2)), ((3, 2), 2)), True),
                ((((1, 4), (1, 3)), ((5, 3), (7, 4))), True), (((0, (292, 1000)), (1, 2)), False),
                (((0, (73, 250)), (1, 2)), False), (((0, (74, 250)), (1, 2)), False),
                (((0, (37, 125)), (1, 2)), True), (((0, (29, 100)), (1, 2)), False), (((0, (3, 10)), (1, 2)), True),
                ((((29, 100), 1), (1, 2)), True), ((((3, 10), 1), (1, 2)), False), (((0, 1), (0, 1)), False),
                (((1, 2), (0, 1)), False), (((1, 2), (1, 2)), False), (((0, 2),), False), (((0, 2), (0, 2)), False),
                (((0, 1),), False), (((0, 1), (1, 2), (2, 2)), False), (((0, 1), (1, 1)), False),
                (((0, (17, 10)), (1, 2)), True), (((0, (171, 100)), (1, 2)), False), (((0, 1), ((1, 2), 2)), True),
                (((0, (3, 2)), ((1, 2), 2)), True), (((0, 1), ((1, 4), 2)), False)):
            self.check(DEEP, thing, wanted)

    def test_stretches(self):
        for thing, wanted in ((((1, 2),), True), ((((1, 1), (2, 1)),), True), ((((1, 1), 2),), True),
                              (((1, (3, 2)),), False), (((1, 1),), False), (((2, 2),), False), (((0, 2),), False),
                              (((1, 3),), False), (((0, 3),), False), (((2, 1),), False), ((((3, 2), (3, 2)),), False),
                              ((), False), (((1, 2), (1, 2)), False), ((((1, 2), 2),), False)):
            self.check(FLAT, thing, wanted)
        self.check(NOUGHT, ((0, 2),), True)
        self.check(NOUGHT, ((0, 1), (1, 2)), False)
        self.check(with_mark(raised(NOUGHT), 1), ((0, 2),), True)

    def test_beside_stretches(self):
        bend = MIXED[1]
        half = (1, 2)
        for thing, wanted in (
                (((0, 0), (half, half), (1, 2)), True), (((0, (1, 4)), ((1, 4), (3, 4)), (1, 2)), True),
                (((0, half), ((1, 4), (3, 4)), (1, 2)), False), (((0, 0), ((1, 4), 1), (1, 2)), False),
                (((0, 0), (0, (3, 4)), (1, 2)), False), (((0, 0), ((1, 4), (99, 100)), (1, 2)), True),
                (((0, 0), (half, half), (1, 1)), False), (((0, 0), (half, half), ((99, 100), 2)), False),
                (((0, 0), (1, 2), (half, half)), False), (((0, 0), (half, half)), False),
                (((half, half), (1, 2)), False)):
            self.check(bend, thing, wanted)

    def test_none(self):
        for bend in (Bend(0, [0, 2], [1]), Bend(2, [0, 2], [2, -1, 2])):
            for thing, wanted in (((), True), ([], False), (((1, 1),), False), (((0, 2),), False), (None, False)):
                self.check(bend, thing, wanted)

    def test_pairs_tried_out(self):
        some = zero_bends()[::11] + [DEEP, FLAT, MIXED[1], TENT]
        for bend in some:
            zeros = Zeros(bend)
            good = fractions(places(bend))
            times = {zeros.first, zeros.last, zeros.last + 1} | {t for pair in good for t in pair}
            times |= {zeros.first + (zeros.last - zeros.first) * Fraction(k, 3) for k in range(3)}
            pairs = list(itertools.product(sorted(times), repeat=2))
            for at in range(len(good)):
                for pair in pairs:
                    tried = good[:at] + [pair] + good[at + 1:]
                    thing = tuple((support.pair_of(a), support.pair_of(b)) for a, b in tried)
                    self.check(bend, thing, zeros.holds(tried))

    def test_more_fewer_and_another_order(self):
        for bend in all_bends()[::2]:
            found = places(bend)
            for at in range(len(found)):
                self.check(bend, found[:at] + found[at + 1:], False)
                self.check(bend, found[:at] + (found[at],) + found[at:], False)
                self.check(bend, found[:at] + (found[at][::-1],) + found[at + 1:], found[at][0] == found[at][1])
                self.check(bend, found[:at] + (list(found[at]),) + found[at + 1:], False)
            self.check(bend, found + found, not found)
            self.check(bend, found[::-1], len(found) < 2)
            self.check(bend, list(found), False)
            self.check(bend, (found,), False)

    def test_of_others(self):
        bends = [bend for bend in zero_bends() if bend.marks[0] == (0, 1) and bend.marks[-1] == (1, 1)][::4]
        for one in bends:
            zeros = Zeros(one)
            for other in bends:
                self.check(one, places(other), zeros.holds(fractions(places(other))))

    def test_any_value_at_all(self):
        things = support.no_values() + support.no_sequences_of_values()
        things += list(range(-3, 4)) + [(1, 2), ((1, 2), (3, 4))]
        for bend in (TOUCH, DEEP, FLAT, NOUGHT, Bend(0, [0, 2], [1])):
            for thing in things:
                if thing != ((1, 2),):
                    self.check(bend, thing, thing == () and sign_row(bend) == (1,))

    def test_any_values_at_all_for_pairs(self):
        for bend in (TOUCH, FLAT, NOUGHT):
            for thing in support.no_values() + support.no_sequences_of_values():
                pair = pair_told(thing)
                self.check(bend, (thing,), pair is not None and Zeros(bend).holds([pair]))
                self.check(bend, (thing, thing), False)

    def test_any_values_at_all_for_times(self):
        for bend, (a, b) in ((TOUCH, (1, 1)), (FLAT, (1, 2)), (NOUGHT, (0, 2))):
            for thing in support.no_values():
                if type(thing) is not tuple or thing != (1, 2):
                    for pair in ((thing, b), (a, thing), (thing, thing), (a, b, thing), (thing, a, b), ((a, b), thing)):
                        self.check(bend, (pair,), False)
            self.check(bend, ((a, b),), True)
            self.check(bend, ((a, b, b),), False)
            self.check(bend, ((a,),), False)
            self.check(bend, (a, b), False)


class FirstZero(unittest.TestCase):
    NEARS = (1, (1, 2), 5, (3, 7), (1, 999999999), (999999999, 999999998), (2, 999999999), (1, 1024))

    def test_told(self):
        for near in self.NEARS:
            self.assertIsNone(first_zero(Bend(0, [0, 2], [1]), near))
            self.assertIsNone(first_zero(Bend(2, [0, 2], [2, -1, 2]), near))
            self.assertEqual(first_zero(FLAT, near), ((1, 1), (2, 1)))
            self.assertEqual(first_zero(NOUGHT, near), ((0, 1), (2, 1)))
            self.assertEqual(first_zero(Bend(1, [0, 1, 2, 3], [0, 0, 1, -1]), near), ((0, 1), (1, 1)))

    def test_many(self):
        for bend in all_bends():
            zeros, found = Zeros(bend), places(bend)
            for near in self.NEARS:
                pair = first_zero(bend, near)
                if not found:
                    self.assertIsNone(pair)
                    continue
                self.assertIs(type(pair), tuple)
                self.assertTrue(zeros.tells(0, *fractions([pair])[0]), (str(bend), pair))
                self.assertIs(places_hold(bend, (pair,) + found[1:]), True)
                if fractions([pair])[0] not in zeros.stretches:
                    self.assertLess(support.frac(pair[1]) - support.frac(pair[0]), support.frac(near), str(bend))

    def test_very_near(self):
        for many in (30, 300, 3000):
            near = Fraction(1, 10 ** many)
            low, high = fractions([first_zero(DEEP, support.pair_of(near))])[0]
            self.assertTrue(0 <= high - low < near)
            # The zero is 1 - r with r * r = 1 / 2.
            self.assertTrue(2 * (1 - high) ** 2 < 1 < 2 * (1 - low) ** 2)

    def test_far_from_a_straight_line(self):
        for many in (5, 9, 21):
            bend = drawn((0, 1, [-1] + [0] * (many - 1) + [3]))
            low, high = fractions([first_zero(bend, (1, 10 ** 40))])[0]
            self.assertTrue(3 * low ** many < 1 < 3 * high ** many)
            self.assertLess(high - low, Fraction(1, 10 ** 40))


class PassedOn(unittest.TestCase):
    def test_returned_ones(self):
        low, high = first_zero(DEEP, (1, 10 ** 9))
        near = support.pair_of((support.frac(high) - support.frac(low)) / 7)
        low, high = first_zero(DEEP, near)
        self.assertLess(support.frac(high) - support.frac(low), support.frac(near))
        left, right = cut(DEEP, high)
        self.assertEqual((sign_row(left), sign_row(right)), ((1, 0, -1), (-1, 0, 1)))
        lifted = minus(DEEP, Bend(0, [0, 2], [value(DEEP, high)]))
        self.assertEqual(sign_row(lifted), (1, 0, -1, 0, 1))
        self.assertIs(places_hold(lifted, ((high, high), (1, 2))), True)
        self.assertIs(places_hold(lifted, ((low, low), (1, 2))), False)
        self.assertIs(places_hold(lifted, places(DEEP)), True)

    def test_products_of_products(self):
        bend = minus(TENT, Bend(0, [0, 2], [(1, 3)]))
        row = sign_row(bend)
        self.assertEqual(row, (-1, 0, 1, 0, -1))
        for _ in range(3):
            bend = product(bend, bend)
            self.assertEqual(sign_row(bend), (1, 0, 1, 0, 1))
            self.assertIs(places_hold(bend, places(bend)), True)
            self.assertIs(places_hold(bend, (((1, 3), (1, 3)), ((5, 3), (5, 3)))), True)
        self.assertEqual(bend.degree, 8)


if __name__ == "__main__":
    unittest.main()
