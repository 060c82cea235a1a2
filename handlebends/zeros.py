"""Zeros: where a curve is nought, and its signs between."""

from handlebends.forms import rows_of, sign_there
from handlebends.ratios import ZERO, are_values, halfway, is_less, pair, pairs
from handlebends.roots import chain_of, narrowed, root_ranges, sign_at


def sign_row(bend):
    """Return the signs of the curve as they follow one another, 0 for each zero place."""
    found = places(bend)
    signs = [sign_there(bend, bend.marks[0])]
    for early, late in zip(found, found[1:]):
        signs.extend([0, sign_there(bend, halfway(early[1], late[0]))])
    if found:
        signs.append(0)
    signs.append(sign_there(bend, bend.marks[-1]))
    # A zero place at an end was told twice, and so was a sign without any zero place.
    return tuple([sign for k, sign in enumerate(signs) if k == 0 or sign != signs[k - 1]])


def crossings(bend):
    """Return at how many zero places the curve goes to the other side of nought."""
    row = sign_row(bend)
    return len([left for left, right in zip(row, row[2:]) if left * right < 0])


def touches(bend):
    """Return at how many zero places the curve comes back to the same side of nought."""
    row = sign_row(bend)
    return len([left for left, right in zip(row, row[2:]) if left * right > 0])


def places(bend):
    """Return pairs of times, one for each zero place."""
    return tuple([(low, high) for low, high, _ in found_places(bend)])


def found_places(bend):
    """Return triples (low, high, whole), ascending, one for each zero place.

    `whole` is None for a stretch, and for a time that is told twice. Else it is a polynomial in integers that has the
    time for its only root from `low` to `high`, and changes its sign there.
    """
    found = []
    for start, end, powers in rows_of(bend):
        told = len(found) > 0 and found[-1][1] == start
        if powers == (ZERO,) * len(powers):
            first = found.pop()[0] if told else start
            found.append((first, end, None))
        else:
            if not told and sign_there(bend, start) == 0:
                found.append((start, start, None))
            found.extend(_inner_places(start, end, powers))
    last = bend.marks[-1]
    if sign_there(bend, last) == 0 and (not found or found[-1][1] != last):
        found.append((last, last, None))
    return found


def _inner_places(start, end, powers):
    """Return triples for the roots between two times, without both, of a polynomial that is not nought."""
    chain = chain_of(powers)
    return [(low, high, None if low == high else chain[0]) for low, high in root_ranges(chain, start, end)]


def places_hold(bend, value):
    """Tell whether any value at all is right as `places` of a bend."""
    found = found_places(bend)
    if not isinstance(value, tuple) or len(value) != len(found):
        return False
    return all([_is_told(bend, found, at, thing) for at, thing in enumerate(value)])


def _is_told(bend, found, at, thing):
    """Tell whether any value at all is a pair for the zero place with a number."""
    if not isinstance(thing, tuple) or len(thing) != 2 or not are_values(thing):
        return False
    a, b = pairs(thing)
    low, high, whole = found[at]
    if whole is None and low != high:
        return (a, b) == (low, high)
    if is_less(a, bend.marks[0]) or is_less(bend.marks[-1], b):
        return False
    met = [k for k, place in enumerate(found) if not _ends_ahead(place, a) and not _begins_behind(place, b)]
    return met == [at]


def _ends_ahead(place, when):
    """Tell whether a zero place ends ahead of a time."""
    low, high, whole = place
    if whole is None or is_less(high, when) or not is_less(low, when):
        return is_less(high, when)
    return sign_at(whole, when) == sign_at(whole, high)


def _begins_behind(place, when):
    """Tell whether a zero place begins behind a time."""
    low, high, whole = place
    if whole is None or is_less(when, low) or not is_less(when, high):
        return is_less(when, low)
    return sign_at(whole, when) == sign_at(whole, low)


def first_zero(bend, near):
    """Return a pair for the first zero place, nearer than told if it is a time, or None if there is none."""
    found = found_places(bend)
    if not found:
        return None
    low, high, whole = found[0]
    return (low, high) if whole is None else narrowed(whole, low, high, pair(near))
