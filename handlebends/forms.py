"""From bends to the polynomials between their marks, and back to the least form."""

from handlebends.bends import Bend, handle_count, knots_of
from handlebends.powers import agreeing_slopes, mixed, polar_value, power_degree


def rows_of(bend):
    """Return the triples (start, end, powers) between neighbouring unlike marks."""
    knots = knots_of(bend.degree, bend.marks)
    starts = [at for at in range(bend.degree, handle_count(bend.degree, bend.marks)) if knots[at] != knots[at + 1]]
    return tuple([(knots[at], knots[at + 1], _powers_behind(bend, knots, at)) for at in starts])


def _powers_behind(bend, knots, at):
    """Return the polynomial between the knot with a number and the next one, which is unlike it."""
    row = [(handle,) for handle in bend.handles[at - bend.degree:at + 1]]
    for size in range(bend.degree, 0, -1):
        first = at - size + 1
        row = [mixed(row[k], row[k + 1], knots[first + k], knots[first + k + size]) for k in range(size)]
    return row[0]


def least_bend(rows):
    """Return the bend in least form with these triples, each of which goes on from the one ahead."""
    degree = max([power_degree(row[2]) for row in rows])
    marks = [rows[0][0]]
    for early, late in zip(rows, rows[1:]):
        marks.extend([late[0]] * _marks_wanted(degree, early[2], late[2], late[0]))
    marks.append(rows[-1][1])
    return _drawn(degree, marks, rows)


def _marks_wanted(degree, left, right, when):
    """Return how many times an inner mark is wanted where two polynomials meet."""
    agreeing = agreeing_slopes(left, right, when)
    return 0 if agreeing is None else degree - agreeing


def _drawn(degree, marks, rows):
    """Return the bend of a degree and marks, which are enough for them, with these triples."""
    knots = knots_of(degree, marks)
    powers_from = {row[0]: row[2] for row in rows}
    # A handle is the polar form, at the knots inside its reach, of any piece there: here of the first one.
    handles = [polar_value(powers_from[knots[i]], knots[i + 1:i + 1 + degree])
               for i in range(handle_count(degree, marks))]
    return Bend(degree, marks, handles)
