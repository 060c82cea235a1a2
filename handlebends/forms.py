"""From bends to the polynomials between their marks, and back to the least form."""

from handlebends.bends import Bend, handle_count, knots_of, value
from handlebends.errors import Unlike
from handlebends.powers import agreeing_slopes, mixed, polar_value, power_degree
from handlebends.ratios import is_less, sign_of


def rows_of(bend):
    """Return the triples (start, end, powers) between neighbouring unlike marks."""
    knots = knots_of(bend.degree, bend.marks)
    starts = [at for at in range(bend.degree, handle_count(bend.degree, bend.marks)) if knots[at] != knots[at + 1]]
    return tuple([(knots[at], knots[at + 1], _powers_behind(bend, knots, at)) for at in starts])


def _powers_behind(bend, knots, at):
    """Return the polynomial between the knot with a number and the next one, which is unlike it."""
    row = [(handle,) for handle in bend.handles[at - bend.degree:at + 1]]
    for size in range(bend.degree, 0, -1):
        first = at - size + 1
        row = [mixed(row[k], row[k + 1], knots[first + k], knots[first + k + size]) for k in range(size)]
    return row[0]


def sign_there(bend, when):
    """Return the sign of the curve at a time."""
    return sign_of(value(bend, when)[0])


def split_rows(rows, when):
    """Return triples as they are, but the one around a time in two parts."""
    parts = []
    for start, end, powers in rows:
        if is_less(start, when) and is_less(when, end):
            parts.extend([(start, when, powers), (when, end, powers)])
        else:
            parts.append((start, end, powers))
    return parts


def check_stretches(p, q):
    """Refuse two bends whose stretches differ."""
    if p.marks[0] != q.marks[0] or p.marks[-1] != q.marks[-1]:
        raise Unlike()


def shared_rows(p, q):
    """Return (start, end, powers of p, powers of q) between neighbouring unlike marks of either."""
    check_stretches(p, q)
    ones, others = rows_of(p), rows_of(q)
    rows = []
    i = j = 0
    start = p.marks[0]
    # The stretches end together, so neither row runs out ahead of the other one.
    while i < len(ones):
        end = ones[i][1] if is_less(ones[i][1], others[j][1]) else others[j][1]
        rows.append((start, end, ones[i][2], others[j][2]))
        i = i + 1 if ones[i][1] == end else i
        j = j + 1 if others[j][1] == end else j
        start = end
    return rows


def least_bend(rows):
    """Return the bend in least form with these triples, each of which goes on from the one ahead."""
    degree = max([power_degree(row[2]) for row in rows])
    marks = [rows[0][0]]
    for early, late in zip(rows, rows[1:]):
        marks.extend([late[0]] * _marks_wanted(degree, early[2], late[2], late[0]))
    marks.append(rows[-1][1])
    return drawn(degree, marks, rows)


def _marks_wanted(degree, left, right, when):
    """Return how many times an inner mark is wanted where two polynomials meet."""
    agreeing = agreeing_slopes(left, right, when)
    return 0 if agreeing is None else degree - agreeing


def drawn(degree, marks, rows):
    """Return the bend of a degree and marks, which are enough for them, with these triples."""
    return Bend(degree, marks, drawn_handles(degree, marks, rows))


def drawn_handles(degree, marks, rows):
    """Return the handles of the bend of a degree and marks, which are enough for them, with these triples."""
    knots = knots_of(degree, marks)
    powers_from = {row[0]: row[2] for row in rows}
    # A handle is the polar form, at the knots inside its reach, of any piece there: here of the first one.
    return [polar_value(powers_from[knots[i]], knots[i + 1:i + 1 + degree])
            for i in range(handle_count(degree, marks))]
