"""Nearest bends: the least miss of told points, a bend that misses no more, and weights that show it."""

from handlebends.bends import Bend, weights
from handlebends.errors import InvalidPoints
from handlebends.linear import cleared, reduced, solution
from handlebends.points import are_balanced, ascending_times, by_handles, summed
from handlebends.ratios import ONE, ZERO, added, is_less, is_sequence, is_value, negated, pair, pairs, size_of, taken
from handlebends.ratios import total
from handlebends.simplex import climbed


def least_miss(degree, marks, points):
    """Return the least value by which some bend misses no point by more."""
    rows, heights = _checked_points(degree, marks, points)
    return _heaviest(rows, heights)[0]


def nearest(degree, marks, points):
    """Return some bend that misses no point by more than the least miss."""
    rows, heights = _checked_points(degree, marks, points)
    miss, parts = _heaviest(rows, heights)
    # A curve misses by all of the least miss where it weighs: below the points of plain parts, above those of turned.
    many = len(rows)
    met = [at for at, _ in parts if at < 2 * many]
    rights = [taken(heights[at], miss) if at < many else added(heights[at - many], miss) for at in met]
    return Bend(degree, marks, solution([rows[at % many] for at in met], rights))


def weighing(degree, marks, points, value):
    """Return some weighing for a value, or None if the least miss is less."""
    rows, heights = _checked_points(degree, marks, points)
    miss, parts = _heaviest(rows, heights)
    if is_less(miss, pair(value)):
        return None
    paper = [ZERO] * len(rows)
    for at, worth in parts:
        paper[at % len(rows)] = worth if at < len(rows) else negated(worth)
    return tuple(paper)


def weighing_holds(degree, marks, points, value, paper):
    """Tell whether any value at all is a weighing for a value."""
    rows, heights = _checked_points(degree, marks, points)
    if not are_balanced(rows, paper):
        return False
    worths = pairs(paper)
    if total([size_of(worth) for worth in worths]) != ONE:
        return False
    return not is_less(summed(heights, worths), pair(value))


def _checked_points(degree, marks, points):
    """Return all weights at the times of points, and their heights."""
    if not is_sequence(points) or len(points) == 0:
        raise InvalidPoints(0)
    found = ascending_times(marks, [thing[0] if _is_point(thing) else None for thing in points])
    return [weights(degree, marks, when) for when in found], pairs([thing[1] for thing in points])


def _is_point(thing):
    """Tell whether any value at all is a pair of something and a value."""
    return isinstance(thing, tuple) and len(thing) == 2 and is_value(thing[1])


def _heaviest(rows, heights):
    """Return the least miss, and (number, value), of which none is below 0, for each part that may weigh.

    The parts are those of the points, plain ones, then those of the points once more, turned to weigh below 0, then
    what is left of 1. The values of the paper are plain parts less turned ones; so the greatest sum of the heights by
    them is the least miss, and parts that may weigh are those at which a nearest curve misses by all of it.
    """
    many = len(rows)
    lines, own = reduced(by_handles(rows), many)
    table = [line + [negated(worth) for worth in line] + [ZERO, ZERO] for line in lines]
    sizes = [ONE] * (2 * many + 2)
    goal = list(heights) + [negated(height) for height in heights] + [ZERO, ZERO]
    for row, at in zip(table, own):
        sizes = cleared(sizes, row, at)
        goal = cleared(goal, row, at)
    table, own, goal = climbed(table + [sizes], own + [2 * many], goal)
    return negated(goal[-1]), [(at, row[-1]) for row, at in zip(table, own)]
