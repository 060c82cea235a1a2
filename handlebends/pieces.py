"""Pieces: the polynomials between the marks of a bend, told and drawn again."""

from handlebends.bends import time_inside
from handlebends.errors import InvalidPieces
from handlebends.forms import least_bend, rows_of
from handlebends.powers import agreeing_slopes, power_value
from handlebends.ratios import are_values, is_less, is_sequence, is_value, pair, pairs


def pieces(bend):
    """Return the triples (start, end, powers) between neighbouring unlike marks."""
    return rows_of(bend)


def from_pieces(rows):
    """Return the bend in least form with these pieces."""
    if not is_sequence(rows) or len(rows) == 0:
        raise InvalidPieces(0)
    found = []
    for at, thing in enumerate(rows):
        if not _is_piece(thing):
            raise InvalidPieces(at)
        row = (pair(thing[0]), pair(thing[1]), pairs(thing[2]))
        if at > 0 and not _goes_on(found[-1], row):
            raise InvalidPieces(at)
        found.append(row)
    return least_bend(found)


def _is_piece(thing):
    """Tell whether any value at all is a piece."""
    if not isinstance(thing, tuple) or len(thing) != 3:
        return False
    start, end, powers = thing
    if not is_value(start) or not is_value(end) or not is_less(pair(start), pair(end)):
        return False
    return are_values(powers) and len(powers) > 0


def _goes_on(early, late):
    """Tell whether a piece begins where the one ahead ends, with the same value."""
    when = late[0]
    return early[1] == when and power_value(early[2], when) == power_value(late[2], when)


def smoothness(bend, time):
    """Return how many first slopes agree on both sides of a time, None if all do."""
    when = time_inside(bend.marks, time)
    rows = rows_of(bend)
    for early, late in zip(rows, rows[1:]):
        if late[0] == when:
            return agreeing_slopes(early[2], late[2], when)
    return None
