"""What several test files need: things of all kinds, many bends, and the curve by the sums of [6], in Fractions."""

from fractions import Fraction
from functools import lru_cache

from handlebends.bends import Bend
from handlebends.errors import InvalidBend, Unlike
from handlebends.pieces import pieces


def deep(many):
    """A list of a list of .. nested as deep as told."""
    thing = []
    for _ in range(many - 1):
        thing = [thing, (thing,)]
    return thing


def no_values():
    """Any values at all that are no value."""
    return [
        None, True, False, "", "0", "1/2", "bend", Bend(0, [0, 2], [1]), InvalidBend("marks"), Unlike(),
        [], (), [1], (1,), [1, 2], [0, 1], [(1, 2)], ((1, 2),), (1, 2, 3), (1, 1, 1),
        (2, 4), (0, 2), (2, 2), (-2, 4), (1, 0), (0, 0), (-1, 0), (1, -1), (-1, -2), (0, -1),
        (True, 1), (1, True), (False, 1), (True, True), (1, None), (None, 1), ("1", 2), (1, "2"),
        ((1, 1), 2), (1, (2, 1)), ((1, 2), (1, 2)), [[1], [2]], [None], (None,), deep(8), tuple(deep(8)),
    ]


def no_sequences_of_values():
    """Any values at all that are no sequence of values, however long."""
    return [
        None, True, False, 0, 1, -3, 10 ** 12, "", "0 1", "01", Bend(1, [0, 1], [0, 1]), InvalidBend("marks"),
        [None], [None, 1], [0, True], [False, 1], [0, "1"], ["0", 1], [0, [1, 2]], [[0, 1], [1, 1]],
        [0, (2, 4)], [0, (1, 0)], [0, (1, -1)], [0, (1, 2, 3)], [(0, 2), 1], (0, (True, 1)), (0, (1,)), (0, ()),
        [0, Bend(0, [0, 1], [0])], [[0], [1]], [0, 1, None], (0, 1, "2"), deep(8), (deep(7), 0),
    ]


def frac(worth):
    """The Fraction of a value or an integer."""
    return Fraction(*worth) if isinstance(worth, tuple) else Fraction(worth)


def pair_of(fraction):
    """The pair of a Fraction."""
    return (fraction.numerator, fraction.denominator)


def knots(degree, marks):
    """The knots, as [6] has them."""
    row = [frac(mark) for mark in marks]
    return [row[0]] * (degree + 1) + row[1:-1] + [row[-1]] * (degree + 1)


def weight(u, i, degree, t, known):
    """The weight with a number and degree, word for word as [6] has it; `known` keeps those of this time."""
    if (i, degree) not in known:
        known[i, degree] = _weight(u, i, degree, t, known)
    return known[i, degree]


def _weight(u, i, degree, t, known):
    if degree == 0:
        last = max(k for k in range(len(u) - 1) if u[k] < u[k + 1])
        return Fraction(int(u[i] <= t < u[i + 1] or (i == last and t == u[-1])))
    result = Fraction(0)
    if u[i + degree] != u[i]:
        result += weight(u, i, degree - 1, t, known) * (t - u[i]) / (u[i + degree] - u[i])
    if u[i + degree + 1] != u[i + 1]:
        part = weight(u, i + 1, degree - 1, t, known)
        result += part * (u[i + degree + 1] - t) / (u[i + degree + 1] - u[i + 1])
    return result


@lru_cache(maxsize=None)
def _kept_weights(degree, marks, t):
    u, known = knots(degree, marks), {}
    return [weight(u, i, degree, t, known) for i in range(degree + len(marks) - 1)]


def all_weights(degree, marks, t):
    """All weights at a time, by [6]; kept, since many bends are asked at the same times."""
    return _kept_weights(degree, tuple(marks), t)


def curve(bend, t):
    """The value of the curve at a time, by [6]."""
    return sum(frac(handle) * w for handle, w in zip(bend.handles, all_weights(bend.degree, bend.marks, t)))


def polynomial(powers, t):
    """The value of a polynomial at a time."""
    return sum(frac(worth) * t ** k for k, worth in enumerate(powers))


def slopes(powers, t):
    """The first slope, the second slope, .. of a polynomial at a time; all later ones are 0."""
    found = []
    row = [frac(worth) for worth in powers]
    while row:
        row = [k * worth for k, worth in enumerate(row)][1:]
        found.append(sum(worth * t ** k for k, worth in enumerate(row)))
    return found


def agreeing(left, right, t):
    """How many first slopes of two polynomials agree at a time, None if all do."""
    many = max(len(left), len(right))
    both = zip((slopes(left, t) + [0] * many)[:many], (slopes(right, t) + [0] * many)[:many])
    return next((k for k, (a, b) in enumerate(both) if a != b), None)


def least_marks(rows):
    """The degree and the marks of the least form of pieces, by [10]."""
    degree = max([k for row in rows for k, worth in enumerate(row[2]) if frac(worth)], default=0)
    marks = [frac(rows[0][0])]
    for early, late in zip(rows, rows[1:]):
        many = agreeing(early[2], late[2], frac(late[0]))
        marks += [frac(late[0])] * (0 if many is None else degree - many)
    return degree, tuple(pair_of(mark) for mark in marks + [frac(rows[-1][1])])


def in_least_form(bend):
    """Whether a bend has the degree and the marks of its least form, by [10]."""
    return (bend.degree, bend.marks) == least_marks(pieces(bend))


def shared_times(*bends):
    """Times of one stretch: curves of these degrees with these marks are the same if they agree at all of them."""
    row = sorted({frac(mark) for bend in bends for mark in bend.marks})
    many = max(bend.degree for bend in bends) + 1
    return sorted({early + (late - early) * Fraction(k, many)
                   for early, late in zip(row, row[1:]) for k in range(many + 1)})


def asked_times(marks):
    """Times at, between and next to marks, as Fractions, ascending."""
    row = sorted({frac(mark) for mark in marks})
    near = Fraction(1, 999999999)
    found = set(row)
    for early, late in zip(row, row[1:]):
        found |= {early + near, late - near}
        found |= {early + (late - early) * Fraction(k, 5) for k in range(1, 5)}
    return sorted(found)


def mark_rows(degree):
    """Rows of marks for a degree: without inner ones, with some, and with some as often as allowed."""
    rows = [[0, 1], [(-7, 3), 5], [-3, (-5, 2)]]
    if degree >= 1:
        rows += [[0, 1, 2], [-1, (1, 3), (3, 2), 4], [0, (1, 7), (6, 7), (13, 14), 1]]
    for many in range(2, degree + 1):
        rows += [[0] + [1] * many + [3], [-2] + [(-1, 2)] * many + [0, (5, 4)], [0, 1] + [(3, 2)] * many + [2]]
    return rows


def handle_rows(many):
    """Rows of so many handles: a few plain ones, and all rows of a hat."""
    rows = [[0] * many, [(5, 2)] * many, list(range(many)), [(-1) ** k * (k + 1) for k in range(many)]]
    rows.append([((7 * k * k + 3 * k) % 11 - 5, 1) for k in range(many)])
    rows.append([pair_of(Fraction((5 * k * k * k + k) % 13 - 6, k % 3 + 1)) for k in range(many)])
    rows += [[int(k == i) for k in range(many)] for i in range(many)]
    return rows


def many_bends():
    """Bends of the degrees 0 to 4, over many rows of marks, with many rows of handles."""
    return [Bend(degree, marks, handles)
            for degree in range(5)
            for marks in mark_rows(degree)
            for handles in handle_rows(degree + len(marks) - 1)]


def over_one_stretch(low, high, step):
    """Bends of the degrees 0 to 4 from one time to another one, with marks here and there."""
    low, high = Fraction(low), Fraction(high)
    places = [low + (high - low) * Fraction(k, 7) for k in (1, 3, 4, 6)]
    found = []
    for degree in range(5):
        rows = [[], [places[1]], places[:2], [places[2]] * degree, [places[0]] + [places[1]] * (degree - 1)]
        for inner in rows if degree else rows[:1]:
            marks = [pair_of(mark) for mark in [low] + inner + [high]]
            found += [Bend(degree, marks, row) for row in handle_rows(degree + len(marks) - 1)[1:8]]
    return found[::step]


def values_told(thing):
    """A tuple of values as Fractions, None for any other value at all."""
    if type(thing) is not tuple:
        return None
    found = []
    for part in thing:
        if type(part) is int:
            part = (part, 1)
        if type(part) is not tuple or [type(n) for n in part] != [int, int] or part[1] < 1:
            return None
        if pair_of(frac(part)) != part:
            return None
        found.append(frac(part))
    return found


def is_pair(thing):
    """Whether a thing is a value as values are returned: a pair in lowest terms."""
    return type(thing) is tuple and len(thing) == 2 and values_told((thing,)) is not None


def slopes_of(bend):
    """For each piece its start, its end and the powers of its slope, in Fractions."""
    return [(frac(start), frac(end), [k * frac(worth) for k, worth in enumerate(powers)][1:] or [Fraction(0)])
            for start, end, powers in pieces(bend)]
