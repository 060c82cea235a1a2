"""The examples of the document, as far as the modules go, and those of README.md."""

import doctest
import pathlib
import unittest

from handlebends.bends import Bend, homes, reach, value, weights
from handlebends.deciding import below_at, bends_up, is_above, never_below, rises, rises_always
from handlebends.desk import Desk
from handlebends.marks import cut, joined, least, lowered, raised, same, with_mark, without_mark
from handlebends.movers import Mover, apart, meetings, nearer_at, never_nearer
from handlebends.nearest import least_miss, nearest, weighing_holds
from handlebends.papers import count_holds, cover, cover_holds
from handlebends.pieces import from_pieces, pieces, smoothness
from handlebends.points import bar_holds, can_pass, passing
from handlebends.sums import area, area_to, minus, product, slope
from handlebends.zeros import crossings, places_hold, sign_row, touches

NOUGHT, DIP = Bend(0, [0, 2], [0]), Bend(2, [0, 2], [2, -1, 2])
TOUCH, DEEP = Bend(2, [0, 2], [1, -1, 1]), Bend(2, [0, 2], [1, -3, 1])
TENT = Bend(1, [0, 1, 2], [0, 1, 0])


class Examples(unittest.TestCase):
    def test_overview(self):
        self.assertEqual([value(DIP, time) for time in (0, (1, 2), 1, 2)], [(2, 1), (7, 8), (1, 2), (2, 1)])
        self.assertEqual([value(NOUGHT, time) for time in (0, 1, 2)], [(0, 1)] * 3)
        self.assertEqual([value(TOUCH, time) for time in (0, (1, 2), 1, 2)], [(1, 1), (1, 4), (0, 1), (1, 1)])
        self.assertEqual(value(DEEP, 1), (-1, 1))
        self.assertIs(is_above(DIP, NOUGHT), True)
        self.assertEqual(
            (sign_row(TOUCH), never_below(TOUCH, NOUGHT), is_above(TOUCH, NOUGHT), sign_row(DEEP), crossings(DEEP)),
            ((1, 0, 1), True, False, (1, 0, -1, 0, 1), 2))

    def test_bends(self):
        self.assertEqual(
            (str(TOUCH), homes(TOUCH), weights(2, [0, 1, 2], (1, 2)), reach(2, [0, 1, 2], 0), value(TENT, (3, 2))),
            ("bend 2 marks 0 2 handles 1 -1 1", ((0, 1), (1, 1), (2, 1)), ((1, 4), (5, 8), (1, 8), (0, 1)),
             ((0, 1), (1, 1)), (1, 2)))

    def test_marks(self):
        self.assertEqual(
            (with_mark(TOUCH, 1).handles, [str(part) for part in cut(TOUCH, 1)], raised(TOUCH).handles),
            (((1, 1), (0, 1), (0, 1), (1, 1)), ["bend 2 marks 0 1 handles 1 0 0", "bend 2 marks 1 2 handles 0 0 1"],
             ((1, 1), (-1, 3), (-1, 3), (1, 1))))
        self.assertEqual(
            (without_mark(with_mark(TOUCH, 1), 1) == TOUCH, without_mark(TENT, 1), lowered(TOUCH),
             least(raised(with_mark(TOUCH, 1))) == TOUCH),
            (True, None, None, True))
        left, right = cut(TOUCH, 1)
        self.assertEqual((joined(left, right) == TOUCH, same(with_mark(TOUCH, 1), TOUCH), with_mark(TOUCH, 1) == TOUCH),
                         (True, True, False))

    def test_pieces(self):
        marked = with_mark(TOUCH, 1)
        self.assertEqual(
            (pieces(TOUCH), from_pieces(pieces(TENT)) == TENT, smoothness(TENT, 1), smoothness(marked, 1)),
            ((((0, 1), (2, 1), ((1, 1), (-2, 1), (1, 1))),), True, 0, None))
        self.assertEqual(from_pieces(pieces(marked)), TOUCH)

    def test_sums(self):
        line = Bend(1, [0, 2], [-1, 1])
        self.assertEqual(
            (str(slope(TOUCH)), area(TOUCH), product(line, line) == TOUCH, str(area_to(slope(TOUCH)))),
            ("bend 1 marks 0 2 handles -2 2", (2, 3), True, "bend 2 marks 0 2 handles 0 -2 0"))
        self.assertEqual(minus(DEEP, TOUCH), Bend(2, [0, 2], [0, -2, 0]))

    def test_zeros(self):
        self.assertEqual(
            (touches(TOUCH), sign_row(TENT), places_hold(DEEP, [((0, 1), (1, 1)), ((1, 1), (2, 1))]),
             places_hold(TOUCH, (((1, 1), (1, 1)),)), places_hold(DEEP, (((0, 1), (2, 1)),))),
            (1, (0, 1, 0), False, True, False))

    def test_deciding(self):
        self.assertEqual(
            (bends_up(TOUCH), bends_up(TENT), below_at(TOUCH, NOUGHT), value(DEEP, below_at(DEEP, NOUGHT))[0] < 0,
             rises(Bend(2, [0, 2], [0, 0, 1])), rises_always(Bend(1, [0, 1, 2], [0, 1, 1]))),
            (True, False, None, True, True, False))

    def test_papers(self):
        self.assertEqual(
            (cover_holds(DIP, ()), cover_holds(DIP, ((1, 1),)), cover(TOUCH), count_holds(DEEP, ()),
             count_holds(DEEP, ((1, 1),))),
            (False, True, None, False, True))

    def test_points(self):
        self.assertEqual(
            (can_pass(2, [0, 1, 2], [0, (1, 2), 1, 2]), can_pass(2, [0, 1, 2], [0, (1, 4), (1, 2), (3, 4)]),
             passing(1, [0, 1, 2], [0, 1, 2], [0, 1, 0]) == TENT),
            (True, False, True))
        self.assertIs(bar_holds(2, [0, 1, 2], [0, (1, 4), (1, 2), (3, 4)], (1, -3, 3, -1)), True)

    def test_nearest(self):
        some = [(0, 0), (1, 1), (2, 0)]
        self.assertEqual(
            (least_miss(1, [0, 2], some), str(nearest(1, [0, 2], some)), least_miss(1, [0, 1, 2], some),
             weighing_holds(1, [0, 2], some, (1, 2), ((-1, 4), (1, 2), (-1, 4)))),
            ((1, 2), "bend 1 marks 0 2 handles 1/2 1/2", (0, 1), True))

    def test_movers(self):
        one = Bend(0, [0, 2], [1])
        runs, stands = Mover(Bend(1, [0, 2], [0, 2]), NOUGHT), Mover(one, one)
        self.assertEqual(
            (str(apart(runs, stands)), never_nearer(runs, stands, 1), never_nearer(runs, stands, (11, 10)),
             nearer_at(runs, stands, 1), meetings(runs, stands)),
            ("bend 2 marks 0 2 handles 2 0 2", True, False, None, 0))

    def test_desk(self):
        desk = Desk()
        said = ("bend 2 marks 0 2 handles 1 -1 1", "signs", "pull 1 -3", "value 1", "mark 1", "least", "unmark 1",
                "undo", "undo")
        self.assertEqual(
            [desk.say(word) for word in said],
            ["3", "+0+", "+0-0+", "-1", "+0-0+", "bend 2 marks 0 2 handles 1 -3 1", "done", "+0-0+", "+0-0+"])

    def test_readme(self):
        readme = pathlib.Path(__file__).resolve().parent.parent / "README.md"
        failed, tried = doctest.testfile(str(readme), module_relative=False)
        self.assertEqual(failed, 0)
        self.assertGreater(tried, 0)


if __name__ == "__main__":
    unittest.main()
