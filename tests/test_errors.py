"""[4]: the errors."""

import unittest

from handlebends import errors
from handlebends.bends import Bend

WITH_ONE = [
    (errors.InvalidBend, "word"), (errors.InvalidText, "at"), (errors.InvalidTime, "time"),
    (errors.InvalidPieces, "at"), (errors.InvalidPoints, "at"), (errors.Kink, "time"), (errors.NoMark, "time"),
    (errors.Refused, "at"),
]
WITH_NONE = [errors.InvalidCommand, errors.Unlike]


def things():
    return [None, True, 0, -7, 10 ** 5000, "", "marks", (1, 2), [1, [2, (3,)]], [], Bend(0, [0, 1], [2]),
            errors.Unlike(), object()]


class Families(unittest.TestCase):
    def test_base(self):
        self.assertEqual(errors.BendError.__bases__, (ValueError,))

    def test_direct_subclasses(self):
        kinds = [kind for kind, _ in WITH_ONE] + WITH_NONE
        self.assertEqual(len(kinds), 10)
        for kind in kinds:
            self.assertEqual(kind.__bases__, (errors.BendError,), kind)

    def test_none_is_another_one(self):
        kinds = [kind for kind, _ in WITH_ONE] + WITH_NONE
        for kind in kinds:
            for other in kinds:
                self.assertEqual(issubclass(kind, other), kind is other)


class Keeping(unittest.TestCase):
    def test_by_place(self):
        for kind, name in WITH_ONE:
            for thing in things():
                self.assertIs(getattr(kind(thing), name), thing)

    def test_by_name(self):
        for kind, name in WITH_ONE:
            for thing in things():
                self.assertIs(getattr(kind(**{name: thing}), name), thing)

    def test_later_changes_show(self):
        for kind, name in WITH_ONE:
            thing = [1]
            error = kind(thing)
            thing.append(2)
            self.assertEqual(getattr(error, name), [1, 2])

    def test_instances_do_not_share(self):
        for kind, name in WITH_ONE:
            one, other = kind(1), kind(2)
            self.assertEqual((getattr(one, name), getattr(other, name)), (1, 2))

    def test_one_argument_is_wanted(self):
        for kind, _ in WITH_ONE:
            with self.assertRaises(TypeError):
                kind()
            with self.assertRaises(TypeError):
                kind(1, 2)

    def test_without_arguments(self):
        for kind in WITH_NONE:
            self.assertEqual(vars(kind()), {})
            with self.assertRaises(kind):
                raise kind()
            with self.assertRaises(ValueError):
                raise kind()


if __name__ == "__main__":
    unittest.main()
