"""[8], [9] and [10]: marks put in and taken out, degrees raised and lowered, cuts, least forms, joins."""

import unittest

from handlebends.bends import Bend
from handlebends.errors import InvalidTime, NoMark, Unlike
from handlebends.marks import cut, joined, least, lowered, raised, same, with_mark, without_mark
from handlebends.pieces import from_pieces, pieces

import support

TOUCH, TENT = Bend(2, [0, 2], [1, -1, 1]), Bend(1, [0, 1, 2], [0, 1, 0])


def inner(bend):
    """The unlike inner marks of a bend, each with how often it stands there."""
    return {mark: bend.marks.count(mark) for mark in bend.marks[1:-1]}


class Curves(unittest.TestCase):
    def check_curve(self, found, bend, ends=None):
        """Check that two bends have the same curve, over the stretch of the first one."""
        self.assertIs(type(found), Bend)
        first, last = ends or (bend.marks[0], bend.marks[-1])
        self.assertEqual((found.marks[0], found.marks[-1]), (first, last))
        for t in support.shared_times(found, bend):
            if support.frac(first) <= t <= support.frac(last):
                self.assertEqual(support.curve(found, t), support.curve(bend, t), (str(found), str(bend), t))

    def check_refused(self, error, ask, *things):
        for thing in things:
            with self.assertRaises(error, msg=repr(thing)) as caught:
                ask(thing)
            self.assertIs(type(caught.exception), error)
            self.assertIs(caught.exception.time, thing)


class WithMark(Curves):
    def test_told(self):
        self.assertEqual(with_mark(TOUCH, 1), Bend(2, [0, 1, 2], [1, 0, 0, 1]))
        self.assertEqual(with_mark(TENT, (1, 2)), Bend(1, [0, (1, 2), 1, 2], [0, (1, 2), 1, 0]))
        self.assertEqual(with_mark(with_mark(TOUCH, 1), (1, 1)), Bend(2, [0, 1, 1, 2], [1, 0, 0, 0, 1]))

    def test_many(self):
        for bend in support.many_bends()[::7]:
            for t in support.asked_times(bend.marks)[1:-1:3]:
                self.check_one_more(bend, support.pair_of(t))
            for mark in inner(bend):
                self.check_one_more(bend, mark)

    def check_one_more(self, bend, time):
        if bend.marks.count(time) >= bend.degree:
            self.check_refused(InvalidTime, lambda thing: with_mark(bend, thing), time)
            return
        found = with_mark(bend, time)
        self.assertEqual(found.degree, bend.degree)
        self.assertEqual(found.marks, tuple(sorted(bend.marks + (time,), key=support.frac)))
        self.check_curve(found, bend)

    def test_as_often_as_can_be(self):
        for degree in range(1, 5):
            bend = Bend(degree, [0, 3], [(-1) ** k * k for k in range(degree + 1)])
            for _ in range(degree):
                bend = with_mark(bend, 2)
            self.assertEqual(bend.marks.count((2, 1)), degree)
            self.check_refused(InvalidTime, lambda thing: with_mark(bend, thing), 2, (2, 1))

    def test_wrong_times(self):
        for bend in (TOUCH, TENT, Bend(4, [-2, 0, 0, 0, 0, 2], [1, 2, 3, 4, 5, 6, 7, 8, 9])):
            first, last = bend.marks[0], bend.marks[-1]
            self.check_refused(InvalidTime, lambda thing: with_mark(bend, thing), first, last, first[0], last[0],
                               -3, 3, (-7, 3), 10 ** 12, (5, 2), *support.no_values())
        self.check_refused(InvalidTime, lambda thing: with_mark(TENT, thing), 1, (1, 1))

    def test_degree_nought_takes_none(self):
        bend = Bend(0, [0, 2], [1])
        self.check_refused(InvalidTime, lambda thing: with_mark(bend, thing), 1, (1, 2), 0, 2, 3, *support.no_values())


class WithoutMark(Curves):
    def test_told(self):
        self.assertEqual(without_mark(Bend(2, [0, 1, 2], [1, 0, 0, 1]), 1), TOUCH)
        self.assertIsNone(without_mark(TENT, 1))
        self.assertIsNone(without_mark(TENT, (1, 1)))
        self.assertEqual(without_mark(Bend(1, [0, 1, 3], [0, 1, 3]), 1), Bend(1, [0, 3], [0, 3]))
        self.assertEqual(without_mark(Bend(2, [0, 1, 1, 2], [0, 0, 1, 2, 0]), 1), Bend(2, [0, 1, 2], [0, 0, 2, 0]))
        self.assertIsNone(without_mark(Bend(2, [0, 1, 1, 2], [0, 0, 1, 1, 0]), 1))

    def test_many(self):
        some, none = 0, 0
        for bend in support.many_bends():
            rows = {row[0]: row[2] for row in pieces(bend)}
            ahead = {row[1]: row[2] for row in pieces(bend)}
            for mark, many in inner(bend).items():
                agree = support.agreeing(ahead[mark], rows[mark], support.frac(mark))
                found = without_mark(bend, mark)
                if agree is None or bend.degree - agree < many:
                    left = list(bend.marks)
                    left.remove(mark)
                    self.assertEqual((found.degree, found.marks), (bend.degree, tuple(left)))
                    self.check_curve(found, bend)
                    some += 1
                else:
                    self.assertIsNone(found, str(bend))
                    none += 1
        self.assertGreater(min(some, none), 100)

    def test_back_from_with_mark(self):
        for bend in support.many_bends()[1::3]:
            for t in support.asked_times(bend.marks)[1:-1:4]:
                time = support.pair_of(t)
                if bend.marks.count(time) < bend.degree:
                    self.assertEqual(without_mark(with_mark(bend, time), time), bend)

    def test_wrong_marks(self):
        for bend in (TOUCH, TENT, Bend(0, [0, 2], [1]), Bend(3, [0, 1, 1, (3, 2), 2], [1, 0, 0, 0, 1, 2, 3])):
            self.check_refused(NoMark, lambda thing: without_mark(bend, thing), 0, 2, (0, 1), (2, 1), (1, 2), (2, 3),
                               -1, 3, 10 ** 12, (-1, 2), *support.no_values())
        self.check_refused(NoMark, lambda thing: without_mark(TOUCH, thing), 1, (1, 1))


class Degrees(Curves):
    def test_told(self):
        self.assertEqual(raised(TOUCH), Bend(3, [0, 2], [1, (-1, 3), (-1, 3), 1]))
        self.assertEqual(raised(TENT), Bend(2, [0, 1, 1, 2], [0, (1, 2), 1, (1, 2), 0]))
        self.assertEqual(raised(Bend(0, [0, 2], [(1, 2)])), Bend(1, [0, 2], [(1, 2), (1, 2)]))
        self.assertIsNone(lowered(TOUCH))
        self.assertIsNone(lowered(Bend(0, [0, 2], [0])))
        self.assertEqual(lowered(Bend(2, [0, 1, 2], [0, 1, 3, 4])), Bend(1, [0, 2], [0, 4]))
        self.assertEqual(lowered(Bend(1, [0, 1, 2], [5, 5, 5])), Bend(0, [0, 2], [5]))

    def test_raised(self):
        for bend in support.many_bends()[::2]:
            found = raised(bend)
            self.assertEqual(found.degree, bend.degree + 1)
            self.assertEqual(inner(found), {mark: many + 1 for mark, many in inner(bend).items()})
            self.assertEqual(list(found.marks), sorted(found.marks, key=support.frac))
            self.check_curve(found, bend)
            self.assertEqual(lowered(found), bend)

    def test_lowered(self):
        some, none = 0, 0
        for bend in support.many_bends():
            found = lowered(bend)
            if bend.degree == 0 or any(row[2][-1] != (0, 1) for row in pieces(bend)):
                self.assertIsNone(found, str(bend))
                none += 1
            else:
                self.assertEqual(found.degree, bend.degree - 1)
                self.assertEqual(inner(found), {mark: many - 1 for mark, many in inner(bend).items() if many > 1})
                self.check_curve(found, bend)
                some += 1
        self.assertGreater(min(some, none), 40)


class Cut(Curves):
    def test_told(self):
        self.assertEqual(cut(TOUCH, 1), (Bend(2, [0, 1], [1, 0, 0]), Bend(2, [1, 2], [0, 0, 1])))
        self.assertEqual(cut(TENT, 1), (Bend(1, [0, 1], [0, 1]), Bend(1, [1, 2], [1, 0])))
        self.assertEqual(cut(TENT, (3, 2)),
                         (Bend(1, [0, 1, (3, 2)], [0, 1, (1, 2)]), Bend(1, [(3, 2), 2], [(1, 2), 0])))
        self.assertEqual(cut(Bend(0, [0, 2], [7]), (1, 3)), (Bend(0, [0, (1, 3)], [7]), Bend(0, [(1, 3), 2], [7])))

    def test_many(self):
        for bend in support.many_bends()[::8]:
            for t in support.asked_times(bend.marks)[1:-1:3] + [support.frac(mark) for mark in inner(bend)]:
                time = support.pair_of(t)
                found = cut(bend, time)
                self.assertIs(type(found), tuple)
                left, right = found
                self.assertEqual((left.degree, right.degree), (bend.degree, bend.degree))
                self.assertEqual(left.marks, tuple(mark for mark in bend.marks if support.frac(mark) < t) + (time,))
                self.assertEqual(right.marks, (time,) + tuple(mark for mark in bend.marks if support.frac(mark) > t))
                self.check_curve(left, bend, (bend.marks[0], time))
                self.check_curve(right, bend, (time, bend.marks[-1]))

    def test_at_marks_however_often(self):
        for degree in range(1, 5):
            bend = Bend(degree, [0] + [1] * degree + [2], list(range(2 * degree + 1)))
            left, right = cut(bend, 1)
            self.assertEqual(left, Bend(degree, [0, 1], list(range(degree + 1))))
            self.assertEqual(right, Bend(degree, [1, 2], list(range(degree, 2 * degree + 1))))

    def test_wrong_times(self):
        for bend in (Bend(0, [0, 2], [1]), TOUCH, TENT):
            self.check_refused(InvalidTime, lambda thing: cut(bend, thing), 0, 2, (0, 1), (2, 1), -1, 3, (-1, 2),
                               (5, 2), 10 ** 12, *support.no_values())


class Least(Curves):
    def test_told(self):
        self.assertEqual(least(TOUCH), TOUCH)
        self.assertEqual(least(TENT), TENT)
        self.assertEqual(least(Bend(2, [0, 1, 2], [1, 0, 0, 1])), TOUCH)
        self.assertEqual(least(Bend(4, [0, 1, 1, 1, 1, 2], [7] * 9)), Bend(0, [0, 2], [7]))
        self.assertEqual(least(Bend(2, [0, 1, 1, 2], [0, (1, 2), 1, (1, 2), 0])), TENT)

    def test_many(self):
        for bend in support.many_bends():
            found = least(bend)
            self.assertEqual((found.degree, found.marks), support.least_marks(pieces(bend)))
            self.check_curve(found, bend)

    def test_nothing_more_goes(self):
        for bend in support.many_bends():
            found = least(bend)
            self.assertIsNone(lowered(found))
            for mark in inner(found):
                self.assertIsNone(without_mark(found, mark), str(found))

    def test_it_is_the_only_one(self):
        for bend in support.many_bends()[::3]:
            found = least(bend)
            other = raised(raised(bend))
            self.assertEqual(least(other), found)
            for t in support.asked_times(bend.marks)[1:-1:5]:
                if support.pair_of(t) not in bend.marks:
                    self.assertEqual(least(with_mark(other, support.pair_of(t))), found)
            self.assertEqual(from_pieces(pieces(bend)), found)


class Same(unittest.TestCase):
    def test_told(self):
        self.assertIs(same(TOUCH, TOUCH), True)
        self.assertIs(same(Bend(2, [0, 1, 2], [1, 0, 0, 1]), TOUCH), True)
        self.assertIs(same(TOUCH, Bend(2, [0, 1, 2], [1, 0, 0, 1])), True)
        self.assertIs(same(TOUCH, TENT), False)
        self.assertIs(same(TOUCH, Bend(2, [0, 2], [1, -1, 2])), False)

    def test_stretches_that_differ(self):
        for marks in ([0, 3], [1, 2], [0, (3, 2)], [-1, 3], [5, 6]):
            self.assertIs(same(Bend(0, [0, 2], [1]), Bend(0, marks, [1])), False)
            self.assertIs(same(Bend(0, marks, [1]), Bend(0, [0, 2], [1])), False)

    def test_all_pairs(self):
        some = [bend for bend in support.many_bends() if bend.marks[0] == (0, 1) and bend.marks[-1] in ((1, 1), (2, 1))]
        some = some[::9] + [raised(bend) for bend in some[::13]]
        for one in some:
            for other in some:
                alike = one.marks[0] == other.marks[0] and one.marks[-1] == other.marks[-1] and all(
                    support.curve(one, t) == support.curve(other, t) for t in support.shared_times(one, other))
                self.assertIs(same(one, other), alike, (str(one), str(other)))


class Joined(Curves):
    def test_told(self):
        self.assertEqual(joined(Bend(2, [0, 1], [1, 0, 0]), Bend(2, [1, 2], [0, 0, 1])), TOUCH)
        self.assertEqual(joined(Bend(1, [0, 1], [0, 1]), Bend(1, [1, 2], [1, 0])), TENT)
        self.assertEqual(joined(Bend(0, [0, 1], [3]), Bend(2, [1, (3, 2)], [3, 3, 3])), Bend(0, [0, (3, 2)], [3]))
        self.assertEqual(joined(Bend(0, [0, 1], [1]), Bend(1, [1, 2], [1, 0])), Bend(1, [0, 1, 2], [1, 1, 0]))

    def test_what_was_cut(self):
        for bend in support.many_bends()[1::4]:
            for t in support.asked_times(bend.marks)[1:-1:4] + [support.frac(mark) for mark in inner(bend)]:
                left, right = cut(bend, support.pair_of(t))
                self.assertEqual(joined(left, right), least(bend))
                self.assertEqual(joined(raised(left), right), least(bend))

    def test_others(self):
        for bend in support.many_bends()[::5]:
            end, height = bend.marks[-1], bend.handles[-1]
            behind = (end[0] + 2 * end[1], end[1])
            for more in ([], [4], [-1, 5], [0, 0, 0]):
                other = Bend(len(more), [end, behind], [height] + more)
                found = joined(bend, other)
                self.assertTrue(support.in_least_form(found))
                self.assertEqual((found.marks[0], found.marks[-1]), (bend.marks[0], behind))
                for t in support.shared_times(bend, found, other):
                    part = bend if t <= support.frac(end) else other
                    self.assertEqual(support.curve(found, t), support.curve(part, t))

    def test_stretches_that_do_not_follow(self):
        for marks in ([0, 2], [2, 3], [(1, 2), 3], [-1, 0], [(3, 2), 2]):
            for handles in ([3], [4]):
                with self.assertRaises(InvalidTime) as caught:
                    joined(Bend(0, [0, 1], [3]), Bend(0, marks, handles))
                self.assertEqual(caught.exception.time, Bend(0, marks, handles).marks[0])

    def test_values_that_differ(self):
        for p, q in ((Bend(0, [0, 1], [3]), Bend(0, [1, 2], [4])), (TENT, Bend(1, [2, 3], [(1, 99999), 0])),
                     (Bend(2, [0, 1], [4, 4, 5]), Bend(2, [1, 2], [4, 5, 5]))):
            with self.assertRaises(Unlike) as caught:
                joined(p, q)
            self.assertIs(type(caught.exception), Unlike)


if __name__ == "__main__":
    unittest.main()
