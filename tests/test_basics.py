"""[1], [2] and [3]: what holds for all of the package."""

import unittest

from handlebends import deciding, errors, marks, movers, nearest, papers, pieces, points, sums, zeros
from handlebends.bends import Bend, homes, reach, value, weights
from handlebends.pieces import from_pieces, smoothness

import support


class Names(unittest.TestCase):
    def test_arguments_by_name_in_another_order(self):
        bend = Bend(handles=[0, 1, 0], marks=[0, 1, 2], degree=1)
        self.assertEqual(bend, Bend(1, [0, 1, 2], [0, 1, 0]))
        self.assertEqual(Bend(1, handles=[0, 1, 0], marks=[0, 1, 2]), bend)
        self.assertEqual(Bend.read(text=str(bend)), bend)
        self.assertEqual(value(time=(3, 2), bend=bend), (1, 2))
        self.assertEqual(weights(time=(1, 2), marks=[0, 1], degree=1), ((1, 2), (1, 2)))
        self.assertEqual(reach(i=0, marks=[0, 1, 2], degree=2), ((0, 1), (1, 1)))
        self.assertEqual(homes(bend=bend), ((0, 1), (1, 1), (2, 1)))
        self.assertEqual(from_pieces(rows=pieces.pieces(bend=bend)), bend)
        self.assertEqual(smoothness(time=1, bend=bend), 0)

    def test_marks_sums_and_zeros(self):
        bend, line = Bend(2, [0, 1, 2], [1, 0, 0, 1]), Bend(1, [0, 2], [-1, 1])
        for module, names in ((marks, ("raised", "lowered", "least")), (sums, ("slope", "area", "area_to")),
                              (zeros, ("sign_row", "crossings", "touches", "places"))):
            for name in names:
                ask = getattr(module, name)
                self.assertEqual(ask(bend=bend), ask(bend))
        for module, names in ((marks, ("same",)), (sums, ("plus", "minus", "product"))):
            for name in names:
                ask = getattr(module, name)
                self.assertEqual(ask(q=line, p=bend), ask(bend, line))
        self.assertNotEqual(sums.minus(q=line, p=bend), sums.minus(p=line, q=bend))
        left, right = marks.cut(time=1, bend=bend)
        self.assertEqual(marks.joined(q=right, p=left), marks.least(bend))
        self.assertEqual(marks.with_mark(time=(1, 2), bend=bend), marks.with_mark(bend, (1, 2)))
        self.assertEqual(marks.without_mark(time=1, bend=bend), marks.without_mark(bend, 1))
        self.assertEqual(sums.scaled(number=2, bend=bend), sums.scaled(bend, (2, 1)))
        self.assertIs(zeros.places_hold(value=((1, 1),), bend=bend), True)
        self.assertEqual(zeros.first_zero(near=(1, 5), bend=bend), zeros.first_zero(bend, (1, 5)))

    def test_deciding_papers_and_points(self):
        bend, low = Bend(2, [0, 1, 2], [1, 0, 0, 1]), Bend(1, [0, 2], [-1, 0])
        for name, wanted in (("is_above", True), ("never_below", True), ("below_at", None)):
            self.assertIs(getattr(deciding, name)(q=low, p=bend), wanted)
        self.assertEqual(deciding.below_at(q=bend, p=low), deciding.below_at(low, bend))
        for name, wanted in (("rises", False), ("rises_always", False), ("bends_up", True)):
            self.assertIs(getattr(deciding, name)(bend=bend), wanted)
        self.assertEqual(deciding.least_within(near=1, bend=bend), deciding.least_within(bend, (1, 1)))
        for ask in (papers.cover, papers.count):
            self.assertEqual(ask(bend=bend), ask(bend))
        self.assertIs(papers.count_holds(value=(), bend=bend), True)
        self.assertIs(papers.cover_holds(value=(), bend=bend), False)
        degree, row, good, bad = 1, [0, 1, 2], [0, 1, 2], [0, (1, 2), 1]
        self.assertIs(points.can_pass(times=good, marks=row, degree=degree), True)
        self.assertEqual(points.passing(heights=good, times=good, marks=row, degree=degree), Bend(degree, row, good))
        self.assertEqual(points.barred(times=bad, marks=row, degree=degree), points.barred(degree, row, bad))
        self.assertIs(points.bar_holds(value=(1, -2, 1), times=bad, marks=row, degree=degree), True)

    def test_nearest(self):
        some = [(0, 0), (1, 1), (2, 0)]
        paper = nearest.weighing(value=(1, 2), points=some, marks=[0, 2], degree=1)
        self.assertEqual(paper, ((-1, 4), (1, 2), (-1, 4)))
        self.assertIs(nearest.weighing_holds(paper=paper, value=(1, 2), points=some, marks=[0, 2], degree=1), True)
        self.assertEqual(nearest.least_miss(points=some, marks=[0, 2], degree=1), (1, 2))
        self.assertEqual(nearest.nearest(points=some, marks=[0, 2], degree=1), Bend(1, [0, 2], [(1, 2), (1, 2)]))


def all_asked(bend, other):
    """What the functions up to points tell of a bend and another one over its stretch."""
    middle = support.pair_of((support.frac(bend.marks[0]) + support.frac(bend.marks[-1])) / 2)
    found = [marks.raised(bend), marks.lowered(bend), marks.least(bend), *marks.cut(bend, middle), sums.area_to(bend),
             sums.plus(bend, other), sums.minus(bend, other), sums.product(bend, other), sums.scaled(bend, (2, 3))]
    if bend.marks.count(middle) < bend.degree:
        found += [marks.with_mark(bend, middle), marks.without_mark(marks.with_mark(bend, middle), middle)]
    told = [marks.same(bend, other), sums.area(bend), zeros.sign_row(bend), zeros.crossings(bend), zeros.touches(bend),
            zeros.places(bend), zeros.places_hold(bend, zeros.places(bend)), zeros.first_zero(bend, (1, 9)),
            deciding.is_above(bend, other), deciding.never_below(bend, other), deciding.below_at(bend, other),
            deciding.rises(bend), deciding.rises_always(bend), deciding.bends_up(bend),
            deciding.least_within(bend, (1, 9)), papers.cover(bend), papers.cover_holds(bend, papers.cover(bend)),
            papers.count(bend), papers.count_holds(bend, papers.count(bend))]
    shape = bend.degree, bend.marks
    times = [(support.frac(mark) * 2 + support.frac(bend.marks[0])) / 3 for mark in bend.marks[1:]]
    for row in (homes(bend), [support.pair_of(t) for t in sorted(set(times))]):
        if len(row) == len(bend):
            told += [points.can_pass(*shape, row), points.barred(*shape, row), points.bar_holds(*shape, row, (1, -1))]
            found.append(points.passing(*shape, row, bend.handles))
    return [str(part) for part in found], told


class Unchanged(unittest.TestCase):
    def test_lists_changed_behind_the_call(self):
        marks, handles = [0, (1, 2), 1], [3, 4, (5, 2)]
        bend = Bend(1, marks, handles)
        text = str(bend)
        marks[1], handles[0] = (2, 3), 9
        marks.append(7)
        handles.clear()
        self.assertEqual(str(bend), text)
        self.assertEqual(value(bend, (1, 2)), (4, 1))

    def test_rows_changed_behind_the_call(self):
        powers = [0, 1]
        rows = [(0, 1, powers), (1, 2, [2, -1])]
        bend = from_pieces(rows)
        powers[0] = 5
        rows.pop()
        self.assertEqual(bend, Bend(1, [0, 1, 2], [0, 1, 0]))

    def test_arguments_are_not_changed(self):
        marks, handles, rows = [0, 1, (3, 2), 2], [1, (2, 3), -3, 4], [(0, 1, [0, 1, 0]), (1, 2, [2, -1])]
        kept = repr((marks, handles, rows))
        bend = Bend(1, marks, handles)
        text = str(bend)
        value(bend, 1), weights(1, marks, 1), reach(1, marks, 1), homes(bend)
        pieces.pieces(bend), from_pieces(rows), smoothness(bend, 1)
        self.assertEqual(repr((marks, handles, rows)), kept)
        self.assertEqual(str(bend), text)

    def test_bends_are_not_changed(self):
        for bend in support.many_bends()[::7]:
            other = Bend(1, [bend.marks[0], bend.marks[-1]], [1, -1])
            kept = str(bend), str(other), repr(bend.marks), repr(bend.handles)
            first = all_asked(bend, other)
            self.assertEqual((str(bend), str(other), repr(bend.marks), repr(bend.handles)), kept)
            all_asked(other, bend)
            mover, another = movers.Mover(bend, other), movers.Mover(other, other)
            movers.apart(mover, another), movers.meetings(mover, another), movers.never_nearer(mover, another, 1)
            self.assertEqual(all_asked(bend, other), first)
            self.assertEqual((str(bend), str(other), repr(bend.marks), repr(bend.handles)), kept)

    def test_papers_are_not_changed(self):
        bend = Bend(1, [0, 2], [-1, 1])
        for paper in ([[0, 2]], ([0, 2],), [((0, 1), (2, 1))], [], [[], [None]]):
            kept = repr(paper)
            self.assertIs(zeros.places_hold(bend, paper), False)
            self.assertEqual(repr(paper), kept)

    def test_papers_and_points_are_not_changed(self):
        bend = Bend(1, [0, 2], [-1, 1])
        for paper in ([1], ([1],), [(1, 2)], [], [[], [None]], ((1, 2), [1])):
            kept = repr(paper)
            self.assertIs(papers.cover_holds(bend, paper), False)
            self.assertIs(papers.count_holds(bend, paper), False)
            self.assertIs(points.bar_holds(1, [0, 2], [0, 2], paper), False)
            self.assertEqual(repr(paper), kept)
        row, times, heights = [0, (1, 2), 2], [0, 1, 2], [3, (1, 2), 4]
        kept = repr((row, times, heights))
        first = points.passing(1, row, times, heights)
        points.can_pass(1, row, times), points.barred(1, row, times), points.bar_holds(1, row, times, (1, 1, 1))
        self.assertEqual(repr((row, times, heights)), kept)
        text = str(first)
        times[1], heights[1], row[1] = (3, 2), 7, 1
        self.assertEqual(str(first), text)

    def test_points_and_weighings_are_not_changed(self):
        row, some, paper = [0, 2], [(0, 0), (1, 1), (2, 0)], [(-1, 4), (1, 2), (-1, 4)]
        kept = repr((row, some, paper))
        found = nearest.nearest(1, row, some)
        self.assertIs(nearest.weighing_holds(1, row, some, (1, 2), paper), False)
        self.assertEqual(nearest.weighing(1, row, some, (1, 2)), tuple(paper))
        self.assertEqual(nearest.least_miss(1, row, some), (1, 2))
        self.assertEqual(repr((row, some, paper)), kept)
        some.pop()
        row[1] = 3
        self.assertEqual(str(found), "bend 1 marks 0 2 handles 1/2 1/2")

    def test_wrong_arguments_are_not_changed(self):
        for make in (lambda thing: Bend(1, thing, [0]), lambda thing: from_pieces(thing), Bend.read):
            for thing in support.no_sequences_of_values():
                kept = repr(thing)
                with self.assertRaises(errors.BendError):
                    make(thing)
                self.assertEqual(repr(thing), kept)

    def test_same_call_same_result(self):
        some = support.many_bends()[::9]
        def asked():
            return [(value(bend, bend.marks[0]), weights(bend.degree, bend.marks, bend.marks[-1]), homes(bend),
                     reach(bend.degree, bend.marks, 0), pieces.pieces(bend), str(from_pieces(pieces.pieces(bend))),
                     Bend.read(str(bend)) == bend) for bend in some]
        first = asked()
        for bend in some[::-1]:
            with self.assertRaises(errors.InvalidTime):
                smoothness(bend, None)
            value(bend, bend.marks[-1])
        self.assertEqual(asked(), first)


class Kinds(unittest.TestCase):
    def check_plain(self, thing):
        self.assertIn(type(thing), (tuple, int))
        if isinstance(thing, tuple):
            for part in thing:
                self.check_plain(part)

    def test_sequences_that_are_returned_are_tuples(self):
        for bend in support.many_bends()[::4]:
            for thing in (bend.marks, bend.handles, homes(bend), weights(bend.degree, list(bend.marks), bend.marks[0]),
                          reach(bend.degree, list(bend.marks), 0), pieces.pieces(bend), value(bend, bend.marks[0])):
                self.check_plain(thing)
            self.check_plain(from_pieces(list(pieces.pieces(bend))).handles)
            for thing in (marks.raised(bend), marks.least(bend), sums.scaled(bend, 2), sums.plus(bend, bend)):
                self.check_plain((thing.degree, thing.marks, thing.handles))
            for thing in (sums.area(bend), zeros.sign_row(bend), zeros.places(bend)):
                self.check_plain(thing)

    def test_not_iterable(self):
        for thing in (Bend(1, [0, 1], [0, 1]), errors.Unlike(), errors.InvalidBend([1, 2]), errors.InvalidTime("ab")):
            for ask in (iter, list, tuple, sorted, lambda it: [*it], lambda it: 1 in it):
                with self.assertRaises(TypeError):
                    ask(thing)

    def test_nothing_else_is_a_sequence(self):
        for kind in (range(2), {0: 1, 1: 2}, "01", iter([0, 1])):
            with self.assertRaises(errors.InvalidBend) as caught:
                Bend(1, kind, [0, 1])
            self.assertEqual(caught.exception.word, "marks")
            with self.assertRaises(errors.InvalidBend) as caught:
                Bend(1, [0, 1], kind)
            self.assertEqual(caught.exception.word, "handles")


class Limits(unittest.TestCase):
    def test_at_the_limits(self):
        marks = [-9999, (-9998, 9999), (1, 9998), (9997, 9998), 9999]
        bend = Bend(4, marks, [(9999, 9998), -9999, (1, 9999), 0, 9999, (-9998, 9997), 7, (5, 9999)])
        for time in ((999999999, 999999998), (-123456789, 987654322), (1, 999999999), 9999):
            t = support.frac(time)
            self.assertEqual(value(bend, time), support.pair_of(support.curve(bend, t)))
        self.assertEqual(from_pieces(pieces.pieces(bend)), bend)
        self.assertEqual(Bend.read(str(bend)), bend)

    def test_what_was_returned_is_passed_on(self):
        hill, time = Bend(2, [0, 1], [0, 2, 0]), (2, 7)
        for _ in range(12):
            time = value(hill, time)
        self.assertGreater(time[1], 10 ** 3000)
        t = support.frac(time)
        bend = Bend(2, [0, time, 1], [0, time, 1, time])
        self.assertEqual(homes(bend)[1], support.pair_of(t / 2))
        self.assertEqual(value(bend, time), support.pair_of(support.curve(bend, t)))
        self.assertEqual(smoothness(bend, time), 1)
        self.assertEqual(from_pieces(pieces.pieces(bend)), bend)
        longer = value(hill, time)
        self.assertGreater(longer[1], 10 ** 4300)
        self.assertEqual(str(Bend(0, [0, 1], [longer])).count("/"), 1)

    def test_zeros_at_the_limits(self):
        last = (9999, 9998)
        handles = [-9999, (1, 9999), (-1, 9999), 9999, -1, (1, 9998), 0, -7]
        bend = Bend(4, [0, (1, 9999), (9997, 9998), 1, last], handles)
        found = zeros.places(bend)
        self.assertIs(zeros.places_hold(bend, found), True)
        self.assertEqual(len(found), zeros.sign_row(bend).count(0))
        low, high = zeros.first_zero(bend, (1, 999999999))
        signs = [support.curve(bend, support.frac(time)) > 0 for time in (low, high)]
        self.assertEqual(signs, [False, True])
        self.assertIs(zeros.places_hold(bend, ((low, high),) + found[1:]), True)

    def test_high_degrees(self):
        degree = 12
        bend = Bend(degree, [0, 1, 3], [(-1) ** k * k for k in range(degree + 2)])
        for t in support.asked_times(bend.marks)[::3]:
            self.assertEqual(value(bend, support.pair_of(t)), support.pair_of(support.curve(bend, t)))
        self.assertEqual(from_pieces(pieces.pieces(bend)), bend)


if __name__ == "__main__":
    unittest.main()
