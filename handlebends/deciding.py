"""Deciding for all times: what is above, what rises, what bends upward, and the least value."""

from handlebends.bends import value
from handlebends.forms import drawn_handles, least_bend, rows_of, sign_there
from handlebends.powers import power_slope, power_value
from handlebends.ratios import ONE, ZERO, added, divided, halfway, is_less, least_of, multiplied, pair, size_of, taken
from handlebends.ratios import total
from handlebends.roots import chain_of, narrowed, root_ranges
from handlebends.sums import minus
from handlebends.zeros import places, sign_row


def is_above(p, q):
    """Tell whether the curve of p is above that of q at all times."""
    return sign_row(minus(p, q)) == (1,)


def never_below(p, q):
    """Tell whether the curve of p is never below that of q."""
    return -1 not in sign_row(minus(p, q))


def below_at(p, q):
    """Return some time at which the curve of p is below that of q, or None."""
    gap = minus(p, q)
    found = places(gap)
    times = [gap.marks[0], gap.marks[-1]]
    times.extend([halfway(early[1], late[0]) for early, late in zip(found, found[1:])])
    for when in times:
        if sign_there(gap, when) < 0:
            return when
    return None


def rises(bend):
    """Tell whether the curve is nowhere lower at a later time."""
    return all([-1 not in row for row in _slope_rows(rows_of(bend))])


def rises_always(bend):
    """Tell whether the curve is higher at each later time."""
    # A slope of 0 at some times by themselves does no harm, but one all along a piece does.
    return all([1 in row and -1 not in row for row in _slope_rows(rows_of(bend))])


def _slope_rows(rows):
    """Return for each triple the signs of the slope from its start to its end."""
    return [sign_row(least_bend([(start, end, power_slope(powers))])) for start, end, powers in rows]


def bends_up(bend):
    """Tell whether the curve is nowhere above a straight line between two of its points."""
    slopes = [(start, end, power_slope(powers)) for start, end, powers in rows_of(bend)]
    for early, late in zip(slopes, slopes[1:]):
        if is_less(power_value(late[2], late[0]), power_value(early[2], late[0])):
            return False
    return all([-1 not in row for row in _slope_rows(slopes)])


def least_within(bend, near):
    """Return some value that is at most the least one of the curve, and less by less than told."""
    lows = [value(bend, mark) for mark in bend.marks]
    for start, end, powers in rows_of(bend):
        lows.extend(_low_values(start, end, powers, pair(near)))
    return least_of(lows)


def _low_values(start, end, powers, near):
    """Return, for each time by itself between two times where a polynomial does not rise or fall, a value below it.

    It is at most as low as the polynomial around that time, but not by as much as `near`.
    """
    slopes = power_slope(powers)
    if slopes == [ZERO] * len(slopes):
        return []
    steep = _steepness(start, end, slopes)
    chain = chain_of(slopes)
    lows = []
    for early, late in root_ranges(chain, start, end):
        low, high = narrowed(chain[0], early, late, divided(near, steep))
        lows.append(taken(power_value(powers, low), multiplied(steep, taken(high, low))))
    return lows


def _steepness(start, end, slopes):
    """Return a value that is greater than the sizes of all values of a polynomial between two times."""
    handles = drawn_handles(len(slopes) - 1, (start, end), [(start, end, slopes)])
    return added(ONE, total([size_of(handle) for handle in handles]))
