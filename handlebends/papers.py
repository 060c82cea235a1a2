"""Papers by cuts: covers, which show that a curve is above nought, and counts, which show how often it crosses."""

from handlebends.cuts import clear_cuts, handles_between, sign_changes
from handlebends.forms import rows_of, sign_there
from handlebends.powers import power_slope, power_value
from handlebends.ratios import ZERO, added, are_values, divided, halfway, is_less, pairs, taken
from handlebends.roots import is_simple_root, narrowed
from handlebends.zeros import found_places, sign_row


def cover(bend):
    """Return some cover, or None if the curve is not above nought everywhere."""
    if sign_row(bend) != (1,):
        return None
    return tuple(clear_cuts(bend, bend.marks[0], bend.marks[-1]))


def cover_holds(bend, value):
    """Tell whether any value at all is a cover."""
    if not _are_cuts(bend, value):
        return False
    return all([handle[0] > 0 for handles in _cut_handles(bend, value) for handle in handles])


def count(bend):
    """Return some count, or None if there is none."""
    found = found_places(bend)
    if not _has_count(bend, found):
        return None
    if not found:
        return tuple(clear_cuts(bend, bend.marks[0], bend.marks[-1]))
    between = [halfway(early[1], late[0]) for early, late in zip(found, found[1:])]
    ends = [bend.marks[0]] + between + [bend.marks[-1]]
    cuts = []
    for place, early, late in zip(found, ends, ends[1:]):
        cuts.extend(_cuts_around(bend, place, early, late) + [late])
    return tuple(cuts[:-1])


def count_holds(bend, value):
    """Tell whether any value at all is a count."""
    if not _are_cuts(bend, value):
        return False
    # The first and the last handle of a part are the values at its ends.
    return all([ZERO not in (handles[0], handles[-1]) and sign_changes(handles) < 2
                for handles in _cut_handles(bend, value)])


def _are_cuts(bend, thing):
    """Tell whether any value at all is a tuple of ascending, unlike times between the ends."""
    if not isinstance(thing, tuple) or not are_values(thing):
        return False
    times = [bend.marks[0]] + list(pairs(thing)) + [bend.marks[-1]]
    return all([is_less(early, late) for early, late in zip(times, times[1:])])


def _cut_handles(bend, cuts):
    """Return the handles of each part of a bend that is cut at these times."""
    rows = rows_of(bend)
    ends = [bend.marks[0]] + list(pairs(cuts)) + [bend.marks[-1]]
    return [handles_between(bend, rows, early, late) for early, late in zip(ends, ends[1:])]


def _has_count(bend, found):
    """Tell whether there is a count of a bend with these zero places."""
    if sign_there(bend, bend.marks[0]) == 0 or sign_there(bend, bend.marks[-1]) == 0:
        return False
    rows = rows_of(bend)
    return all([_can_be_counted(bend, rows, place) for place in found])


def _can_be_counted(bend, rows, place):
    """Tell whether some part around a zero place has handles that change sign at most once."""
    low, high, whole = place
    if whole is not None:
        return is_simple_root(_powers_behind(rows, low), whole, low, high)
    return low != high or _goes_straight(rows, low) or _is_flat_mark(bend, rows, low)


def _powers_ahead(rows, when):
    """Return the polynomial of the triple that goes up to a time or beyond."""
    return [powers for start, end, powers in rows if is_less(start, when) and not is_less(end, when)][0]


def _powers_behind(rows, when):
    """Return the polynomial of the triple that goes on from a time."""
    return [powers for start, end, powers in rows if not is_less(when, start) and is_less(when, end)][0]


def _goes_straight(rows, when):
    """Tell whether the slopes of both sides of a time are the same and not 0."""
    ahead = power_value(power_slope(_powers_ahead(rows, when)), when)
    behind = power_value(power_slope(_powers_behind(rows, when)), when)
    return ahead == behind and ahead != ZERO


def _is_flat_mark(bend, rows, when):
    """Tell whether a time is an inner mark, with as many slopes of 0 as it is seldomer a mark than it could be."""
    many = bend.marks.count(when)
    if many == 0:
        return False
    powers = _powers_behind(rows, when)
    for _ in range(bend.degree - many):
        powers = power_slope(powers)
        if power_value(powers, when) != ZERO:
            return False
    return True


def _cuts_around(bend, place, early, late):
    """Return cuts between two times around one zero place, which are enough for a count there."""
    rows = rows_of(bend)
    low, high = early, late
    parts = 2
    while sign_changes(handles_between(bend, rows, low, high)) > 1:
        low, high = _nearer_range(place, early, late, parts)
        # A curve may be strange only very near to its zero; so few steps lead there.
        parts = parts * parts
    ahead = [] if low == early else clear_cuts(bend, early, low) + [low]
    behind = [] if high == late else [high] + clear_cuts(bend, high, late)
    return ahead + behind


def _nearer_range(place, early, late, parts):
    """Return two times around a zero place, of so many parts nearer to it than two others."""
    low, high, whole = place
    if whole is not None:
        low, high = narrowed(whole, low, high, divided(taken(high, low), (parts, 1)))
        if low != high:
            return low, high
    return taken(low, divided(taken(low, early), (parts, 1))), added(high, divided(taken(late, high), (parts, 1)))
