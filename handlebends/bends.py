"""Bends: curves by a degree, marks and handles."""

from handlebends.errors import InvalidBend, InvalidText, InvalidTime
from handlebends.ratios import ONE, ZERO, added, are_values, divided, is_less, is_value, is_whole, multiplied
from handlebends.ratios import pair, pairs, read_number, read_values, taken, tell_values, total


class Bend:
    """A curve over the stretch from its first mark to its last one. It never changes."""

    def __init__(self, degree, marks, handles):
        if not is_whole(degree) or degree < 0:
            raise InvalidBend("degree")
        if not _are_marks(degree, marks):
            raise InvalidBend("marks")
        if not are_values(handles) or len(handles) != handle_count(degree, marks):
            raise InvalidBend("handles")
        self.degree = degree
        self.marks = pairs(marks)
        self.handles = pairs(handles)

    @classmethod
    def read(cls, text):
        """Return the bend with a text."""
        parts = _read_parts(text)
        if parts is None:
            raise InvalidText(0)
        degree, marks, handles = parts
        return cls(degree, marks, handles)

    def __len__(self):
        return len(self.handles)

    def __eq__(self, other):
        return (isinstance(other, Bend) and self.degree == other.degree
                and self.marks == other.marks and self.handles == other.handles)

    def __str__(self):
        return f"bend {self.degree} marks {tell_values(self.marks)} handles {tell_values(self.handles)}"


def _are_marks(degree, marks):
    """Tell whether any value at all may be the marks of a bend of a degree."""
    if not are_values(marks) or len(marks) < 2:
        return False
    row = pairs(marks)
    inner = row[1:-1]
    if not is_less(row[0], row[1]) or not is_less(row[-2], row[-1]):
        return False
    if any([is_less(late, early) for early, late in zip(inner, inner[1:])]):
        return False
    # Among ascending marks, one that comes again `degree` places later stands there too often.
    return not any([early == late for early, late in zip(inner, inner[degree:])])


def _read_parts(text):
    """Return the degree, marks and handles that any value at all tells, or None if it tells none."""
    if not isinstance(text, str):
        return None
    words = text.split(" ")
    if len(words) < 3 or words[0] != "bend" or words[2] != "marks" or "handles" not in words:
        return None
    at = words.index("handles")
    degree = read_number(words[1])
    marks = read_values(words[3:at])
    handles = read_values(words[at + 1:])
    if degree is None or not marks or not handles:
        return None
    return degree, marks, handles


def handle_count(degree, marks):
    """Return how many handles a bend of a degree with these marks has."""
    return degree + len(marks) - 1


def knots_of(degree, marks):
    """Return the knots of a degree and marks, as pairs."""
    row = pairs(marks)
    return (row[0],) * degree + row + (row[-1],) * degree


def is_time(marks, thing):
    """Tell whether any value at all is a time of the stretch, with its ends."""
    if not is_value(thing):
        return False
    return not is_less(pair(thing), pair(marks[0])) and not is_less(pair(marks[-1]), pair(thing))


def time_within(marks, time):
    """Return a time of the stretch, with its ends, as a pair."""
    if not is_time(marks, time):
        raise InvalidTime(time)
    return pair(time)


def time_inside(marks, time):
    """Return a time between the first mark and the last one, without them, as a pair."""
    when = time_within(marks, time)
    if when == pair(marks[0]) or when == pair(marks[-1]):
        raise InvalidTime(time)
    return when


def value(bend, time):
    """Return the value of the curve at a time."""
    return total([multiplied(handle, weight)
                  for handle, weight in zip(bend.handles, weights(bend.degree, bend.marks, time))])


def weights(degree, marks, time):
    """Return all weights at a time."""
    when = time_within(marks, time)
    knots = knots_of(degree, marks)
    here = _knot_ahead(degree, knots, when)
    row = [ONE if i == here else ZERO for i in range(len(knots) - 1)]
    for size in range(1, degree + 1):
        row = [_weight(row, knots, i, size, when) for i in range(len(row) - 1)]
    return tuple(row)


def _knot_ahead(degree, knots, when):
    """Return the number of the knot from which on the weight of degree 0 is 1 at a time."""
    last = len(knots) - degree - 2
    at = degree
    while at < last and not is_less(when, knots[at + 1]):
        at += 1
    return at


def _weight(row, knots, i, size, when):
    """Return the weight with the number i and degree `size`, from those of a degree less by 1."""
    rising = _share(row[i], taken(when, knots[i]), taken(knots[i + size], knots[i]))
    falling = _share(row[i + 1], taken(knots[i + size + 1], when), taken(knots[i + size + 1], knots[i + 1]))
    return added(rising, falling)


def _share(weight, above, below):
    """Return a weight times above / below, nothing if it is 0."""
    # A weight with no room between its knots is 0, so each divisor of 0 is left out here.
    return ZERO if weight == ZERO else multiplied(weight, divided(above, below))


def reach(degree, marks, i):
    """Return the first and the last knot of the reach of the handle with a number."""
    knots = knots_of(degree, marks)
    return knots[i], knots[i + degree + 1]


def homes(bend):
    """Return where in time each handle is at home."""
    if bend.degree == 0:
        return (divided(added(bend.marks[0], bend.marks[-1]), (2, 1)),)
    knots = knots_of(bend.degree, bend.marks)
    return tuple([divided(total(knots[i + 1:i + 1 + bend.degree]), (bend.degree, 1)) for i in range(len(bend))])
