"""Sums, products, slopes and areas of curves."""

from handlebends.bends import Bend, reach
from handlebends.errors import Kink
from handlebends.forms import least_bend, rows_of, shared_rows
from handlebends.marks import least
from handlebends.powers import power_difference, power_product, power_slope, power_sum, power_value
from handlebends.ratios import ZERO, added, divided, multiplied, pair, taken, total


def plus(p, q):
    """Return the bend in least form of the sum of two curves."""
    return _by_rows(p, q, power_sum)


def minus(p, q):
    """Return the bend in least form of the difference of two curves."""
    return _by_rows(p, q, power_difference)


def product(p, q):
    """Return the bend in least form of the product of two curves."""
    return _by_rows(p, q, power_product)


def _by_rows(p, q, rule):
    """Return the bend in least form by a rule that makes one polynomial of two."""
    return least_bend([(start, end, rule(one, other)) for start, end, one, other in shared_rows(p, q)])


def scaled(bend, number):
    """Return the bend in least form of a multiple of the curve."""
    factor = pair(number)
    return least(Bend(bend.degree, bend.marks, [multiplied(handle, factor) for handle in bend.handles]))


def slope(bend):
    """Return the bend in least form of the slope of the curve."""
    rows = [(start, end, power_slope(powers)) for start, end, powers in rows_of(bend)]
    for early, late in zip(rows, rows[1:]):
        when = late[0]
        if power_value(early[2], when) != power_value(late[2], when):
            raise Kink(when)
    return least_bend(rows)


def area(bend):
    """Return the value of the area between the curve and nought."""
    return total(_handle_areas(bend))


def area_to(bend):
    """Return the bend in least form of the area up to each time."""
    handles = [ZERO]
    for part in _handle_areas(bend):
        handles.append(added(handles[-1], part))
    return least(Bend(bend.degree + 1, bend.marks, handles))


def _handle_areas(bend):
    """Return the area that comes by each handle."""
    parts = []
    for i, handle in enumerate(bend.handles):
        first, last = reach(bend.degree, bend.marks, i)
        # The area under a weight is its reach by the degree and 1.
        parts.append(multiplied(handle, divided(taken(last, first), (bend.degree + 1, 1))))
    return parts
