"""Covers and counts checked by the words of [16] and [17]: handles of parts by putting marks in one by one."""

from fractions import Fraction

import support


def with_knot(degree, u, handles, t):
    """The knots and the handles of the same curve with one knot more, put in as Boehm did it."""
    k = max(i for i in range(len(u) - 1) if u[i] <= t and u[i] < u[i + 1])
    found = []
    for i in range(len(handles) + 1):
        if i <= k - degree:
            found.append(handles[i])
        elif i > k:
            found.append(handles[i - 1])
        else:
            share = (t - u[i]) / (u[i + degree] - u[i]) if u[i + degree] != u[i] else Fraction(0)
            found.append((1 - share) * (handles[i - 1] if share != 1 else 0) + (share * handles[i] if share else 0))
    return u[:k + 1] + [t] + u[k + 1:], found


def parts(bend, cuts):
    """The handles of all parts of a bend that is cut at ascending times between its ends, all in Fractions."""
    degree, u, handles = bend.degree, support.knots(bend.degree, bend.marks), [support.frac(h) for h in bend.handles]
    found = []
    for t in cuts if degree else []:
        while u.count(t) < degree:
            u, handles = with_knot(degree, u, handles, t)
        # With `degree` marks at this time the handle at home there is the value, and stands in both parts.
        at = u.index(t)
        found.append(handles[:at])
        u, handles = [t] + u[at:], handles[at - 1:]
    return found + [handles] if degree else [handles] * (len(cuts) + 1)


def changes(handles):
    """How often the signs change from one that is not 0 to the next one that is not 0."""
    signs = [handle > 0 for handle in handles if handle != 0]
    return sum(early != late for early, late in zip(signs, signs[1:]))


def cuts_told(bend, thing):
    """The cuts as Fractions, None for any value at all that is no tuple of ascending, unlike times between the ends."""
    found = support.values_told(thing)
    if found is None:
        return None
    row = [support.frac(bend.marks[0]), *found, support.frac(bend.marks[-1])]
    return found if all(early < late for early, late in zip(row, row[1:])) else None


def is_cover(bend, thing):
    """Whether any value at all is a cover, word for word as [16] has it."""
    cuts = cuts_told(bend, thing)
    return cuts is not None and all(handle > 0 for part in parts(bend, cuts) for handle in part)


def is_count(bend, thing):
    """Whether any value at all is a count, word for word as [17] has it."""
    cuts = cuts_told(bend, thing)
    if cuts is None:
        return False
    ends = [support.frac(bend.marks[0]), *cuts, support.frac(bend.marks[-1])]
    return all(support.curve(bend, t) != 0 for t in ends) and all(changes(part) <= 1 for part in parts(bend, cuts))
