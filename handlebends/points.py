"""Through points: whether curves can be led through all heights at told times, the curve, and what bars it."""

from handlebends.bends import Bend, handle_count, is_time, weights
from handlebends.errors import InvalidPoints
from handlebends.linear import balance, solution
from handlebends.ratios import ZERO, are_values, is_less, is_sequence, multiplied, pair, pairs, total


def can_pass(degree, marks, times):
    """Tell whether for all heights at these times just one bend has them."""
    return _all_weigh(_checked_rows(degree, marks, times))


def passing(degree, marks, times, heights):
    """Return the bend with these heights at these times, None if there is not just one for all heights."""
    rows = _checked_rows(degree, marks, times)
    if not _all_weigh(rows):
        return None
    return Bend(degree, marks, solution(rows, pairs(heights)))


def barred(degree, marks, times):
    """Return some bar of these times, or None if curves can pass."""
    rows = _checked_rows(degree, marks, times)
    if _all_weigh(rows):
        return None
    return tuple(balance(by_handles(rows), len(rows)))


def bar_holds(degree, marks, times, value):
    """Tell whether any value at all is a bar of these times."""
    rows = _checked_rows(degree, marks, times)
    return are_balanced(rows, value) and any([worth != ZERO for worth in pairs(value)])


def _checked_rows(degree, marks, times):
    """Return all weights at each of as many ascending times as there are handles."""
    found = ascending_times(marks, times)
    if len(found) != handle_count(degree, marks):
        raise InvalidPoints(len(found))
    return [weights(degree, marks, when) for when in found]


def ascending_times(marks, things):
    """Return any value at all, if it is a sequence of ascending, unlike times of the stretch, as pairs."""
    if not is_sequence(things):
        raise InvalidPoints(0)
    found = []
    for at, thing in enumerate(things):
        if not is_time(marks, thing) or (at > 0 and not is_less(found[-1], pair(thing))):
            raise InvalidPoints(at)
        found.append(pair(thing))
    return found


def _all_weigh(rows):
    """Tell whether the weight with each number is above 0 at the time with this number."""
    return all([row[at] != ZERO for at, row in enumerate(rows)])


def by_handles(rows):
    """Return for each handle its weights at all times, from all weights at each time."""
    return [[row[at] for row in rows] for at in range(len(rows[0]))]


def are_balanced(rows, thing):
    """Tell whether any value at all is a tuple of values, one for each time, that weigh 0 together for each handle."""
    if not isinstance(thing, tuple) or len(thing) != len(rows) or not are_values(thing):
        return False
    worths = pairs(thing)
    return all([summed(line, worths) == ZERO for line in by_handles(rows)])


def summed(line, worths):
    """Return the sum of the products of those in one row and those in another one."""
    return total([multiplied(a, b) for a, b in zip(line, worths)])
