"""[5], and what [1] and [2] say of its arguments: making bends, their attributes, len, == and str."""

import unittest

from handlebends.bends import Bend
from handlebends.errors import BendError, InvalidBend

import support


class Wrong(unittest.TestCase):
    def check(self, word, degree, marks, handles):
        with self.assertRaises(InvalidBend, msg=(degree, marks, handles)) as caught:
            Bend(degree, marks, handles)
        self.assertEqual(caught.exception.word, word, (degree, marks, handles))

    def test_degree(self):
        kinds = [thing for thing in support.no_values() + support.no_sequences_of_values()
                 if not isinstance(thing, int) or isinstance(thing, bool) or thing < 0]
        for thing in kinds + [-1, (1, 1), (0, 1), (1, 2), -10 ** 20]:
            self.check("degree", thing, [0, 1], [0, 0])

    def test_marks(self):
        for thing in support.no_sequences_of_values():
            self.check("marks", 1, thing, [0, 0])

    def test_handles(self):
        for thing in support.no_sequences_of_values():
            self.check("handles", 1, [0, 1], thing)

    def test_things_among_marks_and_handles(self):
        for thing in support.no_values():
            self.check("marks", 2, [thing, 5], [0, 0, 0])
            self.check("marks", 2, [-5, thing, 5], [0, 0, 0, 0])
            self.check("marks", 2, (-5, thing), [0, 0, 0])
            self.check("handles", 2, [0, 1], [thing, 0, 0])
            self.check("handles", 2, [0, 1], (0, 0, thing))

    def test_marks_that_are_few_or_not_ascending(self):
        for marks in ([], (), [0], [(1, 2)], [0, 0], [1, 0], [0, -1], [(1, 2), (1, 3)], [(-1, 3), (-1, 2)],
                      [0, 2, 1], [0, -1, 1], [0, 3, 2, 4], [0, 1, 3, 2, 4], [0, (3, 4), (2, 3), 1], [(2, 1), 2]):
            self.check("marks", 4, marks, [0] * (3 + len(marks)))

    def test_ends_stand_once(self):
        for marks in ([0, 0, 1], [0, 1, 1], [0, 0, 1, 1], [0, (0, 1), 1, 2], [0, 1, 2, (2, 1)], [0, 0, 0], [3, 3]):
            self.check("marks", 4, marks, [0] * (3 + len(marks)))

    def test_inner_marks_as_often_as_allowed(self):
        for degree in range(6):
            for many in range(degree + 1):
                for marks in ([0] + [1] * many + [2], [-1, 0] + [(1, 2)] * many + [2, 3]):
                    if degree or len(marks) == 2:
                        bend = Bend(degree, marks, [0] * (degree + len(marks) - 1))
                        self.assertEqual(len(bend.marks), len(marks))

    def test_inner_marks_once_more(self):
        for degree in range(6):
            for marks in ([0] + [1] * (degree + 1) + [2], [0] + [1] * (degree + 2) + [2],
                          [-1, 0] + [(1, 2)] * (degree + 1) + [3], [-1] + [(1, 2)] * (degree + 1) + [1, 3]):
                self.check("marks", degree, marks, [0] * (degree + len(marks) - 1))

    def test_number_of_handles(self):
        for degree in range(5):
            for marks in support.mark_rows(degree):
                right = degree + len(marks) - 1
                for many in range(right + 4):
                    if many == right:
                        self.assertEqual(len(Bend(degree, marks, [1] * many)), right)
                    else:
                        self.check("handles", degree, marks, [1] * many)

    def test_first_wrong_one_is_named(self):
        self.check("degree", None, None, None)
        self.check("degree", -1, [0], [0])
        self.check("degree", True, [1, 0], "")
        self.check("marks", 1, [1, 0], [0])
        self.check("marks", 0, [0, 1, 2], None)
        self.check("marks", 1, [0], ["x"])
        self.check("handles", 1, [0, 1], [0, None, 0])
        self.check("handles", 1, [0, 1], [0])

    def test_any_kind_is_a_value_error(self):
        with self.assertRaises(ValueError):
            Bend(1, [0, 1], [0])
        with self.assertRaises(BendError):
            Bend(1, [0, 1], [0])


class Attributes(unittest.TestCase):
    def test_values_are_pairs(self):
        bend = Bend(2, [0, (1, 2), 1], [0, 1, (-2, 3), (4, 1)])
        self.assertEqual(bend.degree, 2)
        self.assertEqual(bend.marks, ((0, 1), (1, 2), (1, 1)))
        self.assertEqual(bend.handles, ((0, 1), (1, 1), (-2, 3), (4, 1)))

    def test_tuples_for_lists_and_pairs_for_integers(self):
        one = Bend(1, [0, 1, 2], [3, -4, 5])
        other = Bend(1, ((0, 1), (1, 1), (2, 1)), ((3, 1), (-4, 1), (5, 1)))
        self.assertEqual(one, other)
        self.assertEqual((one.marks, one.handles), (other.marks, other.handles))

    def test_length_is_the_number_of_handles(self):
        for bend in support.many_bends():
            self.assertEqual(len(bend), len(bend.handles))
            self.assertEqual(len(bend), bend.degree + len(bend.marks) - 1)


class Equal(unittest.TestCase):
    def test_equal_just_if_texts_are(self):
        bends = support.many_bends()[::7]
        for one in bends:
            for other in bends:
                self.assertIs(one == other, str(one) == str(other))
                self.assertIs(one != other, str(one) != str(other))

    def test_each_part_counts(self):
        bend = Bend(2, [0, 1, 2], [1, 2, 3, 4])
        self.assertEqual(bend, Bend(2, [0, 1, 2], [1, 2, 3, 4]))
        for other in (Bend(3, [0, 2], [1, 2, 3, 4]), Bend(1, [0, 1, (3, 2), 2], [1, 2, 3, 4]),
                      Bend(2, [0, (1, 2), 2], [1, 2, 3, 4]), Bend(2, [0, 1, 2], [1, 2, 3, 5]),
                      Bend(2, [0, 1, 2], [4, 3, 2, 1])):
            self.assertNotEqual(bend, other)

    def test_same_curve_is_not_enough(self):
        self.assertNotEqual(Bend(0, [0, 2], [0]), Bend(1, [0, 2], [0, 0]))

    def test_equal_to_nothing_else(self):
        bend = Bend(1, [0, 1], [2, 3])
        for thing in support.no_values() + [str(bend), 2, ((0, 1), (1, 1)), (1, bend.marks, bend.handles), object()]:
            if not isinstance(thing, Bend):
                self.assertIs(bend == thing, False)
                self.assertIs(bend != thing, True)
                self.assertIs(thing == bend, False)


class Texts(unittest.TestCase):
    def test_told(self):
        told = [
            (Bend(2, [0, (1, 2), 1], [0, 1, (-2, 3), 4]), "bend 2 marks 0 1/2 1 handles 0 1 -2/3 4"),
            (Bend(0, [-3, (-1, 7)], [-12]), "bend 0 marks -3 -1/7 handles -12"),
            (Bend(1, [(0, 1), 10], [(5, 1), (7, 100)]), "bend 1 marks 0 10 handles 5 7/100"),
        ]
        for bend, text in told:
            self.assertEqual(str(bend), text)

    def test_long_numbers(self):
        big = 10 ** 5000
        self.assertEqual(str(Bend(0, [0, 1], [big])), "bend 0 marks 0 1 handles 1" + "0" * 5000)
        self.assertEqual(str(Bend(0, [-big, (1, big)], [-big - 7])),
                         "bend 0 marks -1" + "0" * 5000 + " 1/1" + "0" * 5000 + " handles -1" + "0" * 4999 + "7")
        for n in (10 ** 18, 10 ** 18 - 1, 10 ** 18 + 1, -10 ** 18, 123456789 * 10 ** 30 + 5, 10 ** 36, 7 ** 99):
            self.assertEqual(str(Bend(0, [0, 1], [n])), f"bend 0 marks 0 1 handles {n}")


if __name__ == "__main__":
    unittest.main()
