"""Marks and forms: other bends with the same curve."""

from handlebends.bends import time_inside, value
from handlebends.errors import InvalidTime, NoMark, Unlike
from handlebends.forms import drawn, least_bend, rows_of, split_rows
from handlebends.ratios import is_less, is_value, pair


def with_mark(bend, time):
    """Return the bend with one more inner mark at a time."""
    when = time_inside(bend.marks, time)
    if bend.marks.count(when) >= bend.degree:
        raise InvalidTime(time)
    ahead = [mark for mark in bend.marks if is_less(mark, when)]
    marks = ahead + [when] + list(bend.marks[len(ahead):])
    return drawn(bend.degree, marks, split_rows(rows_of(bend), when))


def without_mark(bend, time):
    """Return the bend with one inner mark fewer at a time, None if its curve needs this mark."""
    inner = list(bend.marks[1:-1])
    if not is_value(time) or pair(time) not in inner:
        raise NoMark(time)
    inner.remove(pair(time))
    return _if_same(_redrawn(bend, bend.degree, inner), bend)


def raised(bend):
    """Return the bend of a degree greater by 1, with each inner mark once more."""
    return _redrawn(bend, bend.degree + 1, _inner_marks(bend, 1))


def lowered(bend):
    """Return the bend of a degree less by 1, with each inner mark once less, None if there is none."""
    if bend.degree == 0:
        return None
    return _if_same(_redrawn(bend, bend.degree - 1, _inner_marks(bend, -1)), bend)


def _redrawn(bend, degree, inner):
    """Return the bend of a degree and inner marks that has the curve of a bend, or another one if none has."""
    return drawn(degree, [bend.marks[0]] + inner + [bend.marks[-1]], rows_of(bend))


def _if_same(found, bend):
    """Return what was found if it has the curve of a bend, else None."""
    return found if same(found, bend) else None


def _inner_marks(bend, more):
    """Return the inner marks, each so many times more than it stands there."""
    inner = []
    for row in rows_of(bend)[1:]:
        inner.extend([row[0]] * (bend.marks.count(row[0]) + more))
    return inner


def cut(bend, time):
    """Return the two bends up to and from a time."""
    when = time_inside(bend.marks, time)
    rows = split_rows(rows_of(bend), when)
    ahead = [mark for mark in bend.marks if is_less(mark, when)]
    behind = [mark for mark in bend.marks if is_less(when, mark)]
    left = drawn(bend.degree, ahead + [when], rows)
    right = drawn(bend.degree, [when] + behind, rows)
    return left, right


def least(bend):
    """Return the bend in least form with the same curve."""
    return least_bend(rows_of(bend))


def same(p, q):
    """Tell whether two bends have the same stretch and the same curve."""
    return least(p) == least(q)


def joined(p, q):
    """Return the bend in least form whose curve is that of p and, from its end on, that of q."""
    start = q.marks[0]
    if start != p.marks[-1]:
        raise InvalidTime(start)
    if value(p, start) != value(q, start):
        raise Unlike()
    return least_bend(rows_of(p) + rows_of(q))
