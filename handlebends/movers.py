"""Movers: things that move along two curves at once, and how near they come to each other."""

from handlebends.bends import Bend
from handlebends.deciding import below_at, never_below
from handlebends.forms import check_stretches, rows_of
from handlebends.ratios import ZERO, multiplied, pair
from handlebends.sums import minus, plus, product
from handlebends.zeros import sign_row


class Mover:
    """A thing that is at the place (x, y) at each time. It never changes."""

    def __init__(self, x, y):
        check_stretches(x, y)
        self.x = x
        self.y = y


def apart(one, other):
    """Return the bend in least form of the square of the distance of two movers."""
    along = minus(one.x, other.x)
    across = minus(one.y, other.y)
    return plus(product(along, along), product(across, across))


def never_nearer(one, other, distance):
    """Tell whether two movers are never nearer to each other than told."""
    gap = apart(one, other)
    return never_below(gap, _square(gap, distance))


def nearer_at(one, other, distance):
    """Return some time at which two movers are nearer to each other than told, or None."""
    gap = apart(one, other)
    return below_at(gap, _square(gap, distance))


def _square(gap, distance):
    """Return the square of a distance as a bend over the stretch of another one."""
    worth = pair(distance)
    return Bend(0, [gap.marks[0], gap.marks[-1]], [multiplied(worth, worth)])


def meetings(one, other):
    """Return at how many times two movers are at the same place, None if they are all along between some two times."""
    gap = apart(one, other)
    if any([row[2] == (ZERO,) * len(row[2]) for row in rows_of(gap)]):
        return None
    return sign_row(gap).count(0)
