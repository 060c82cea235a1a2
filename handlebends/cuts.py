"""Parts of bends: their handles, and cuts behind which all handles are on one side of nought."""

from handlebends.forms import drawn_handles, rows_of
from handlebends.powers import power_slope
from handlebends.ratios import ZERO, divided, halfway, is_less, sign_of, taken
from handlebends.roots import chain_of, narrowed, root_ranges


def handles_between(bend, rows, low, high):
    """Return the handles of the part from a time to a later one of a bend with these triples."""
    inner = [mark for mark in bend.marks if is_less(low, mark) and is_less(mark, high)]
    return drawn_handles(bend.degree, [low] + inner + [high], _rows_between(rows, low, high))


def _rows_between(rows, low, high):
    """Return what lies of triples between two times."""
    found = []
    for start, end, powers in rows:
        if is_less(start, high) and is_less(low, end):
            early = low if is_less(start, low) else start
            late = high if is_less(high, end) else end
            found.append((early, late, powers))
    return found


def sign_changes(handles):
    """Return how often the signs of handles change, from one that is not 0 to the next one that is not 0."""
    signs = [sign_of(handle[0]) for handle in handles if handle != ZERO]
    return len([late for early, late in zip(signs, signs[1:]) if early != late])


def _are_clear(handles):
    """Tell whether all handles are above nought, or all below."""
    return ZERO not in handles and sign_changes(handles) == 0


def clear_cuts(bend, low, high):
    """Return times, ascending, between two times, where cuts leave only parts with clear handles.

    The curve is not nought at any time from the first one to the second one.
    """
    rows = rows_of(bend)
    if _are_clear(handles_between(bend, rows, low, high)):
        return []
    hard = _hard_times(bend, rows, low, high)
    found = []
    waiting = [(low, high)]
    while waiting:
        early, late = waiting.pop()
        if _are_clear(handles_between(bend, rows, early, late)):
            found.append(late)
        else:
            when = _next_cut(hard, early, late)
            waiting.extend([(when, late), (early, when)])
    return found[:-1]


def _next_cut(hard, early, late):
    """Return where to cut between two times."""
    within = [when for when in hard if is_less(early, when) and is_less(when, late)]
    return within[len(within) // 2] if within else halfway(early, late)


def _hard_times(bend, rows, low, high):
    """Return the marks between two times, and times beside those where a piece does not rise or fall.

    A curve that comes very near to nought does so there. Halves alone would need many cuts to come as near.
    """
    times = []
    for start, end, powers in _rows_between(rows, low, high):
        times.append(start)
        slopes = power_slope(powers)
        if slopes != [ZERO] * len(slopes):
            chain = chain_of(slopes)
            for early, late in root_ranges(chain, start, end):
                times.extend(_clear_range(bend, rows, chain[0], early, late))
    return times


def _clear_range(bend, rows, whole, low, high):
    """Return two times around the only root between two times, with clear handles between, or the root twice."""
    parts = 2
    while low != high and not _are_clear(handles_between(bend, rows, low, high)):
        low, high = narrowed(whole, low, high, divided(taken(high, low), (parts, 1)))
        parts = parts * parts
    return low, high
