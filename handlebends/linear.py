"""Sums of unknown values that are told: rows of pairs by which the unknown ones come, reduced and solved."""

from handlebends.ratios import ONE, ZERO, inverted, multiplied, negated, taken


def reduced(rows, many):
    """Return rows that say the same, without needless ones, and for each of them the index of its own column.

    Only the first `many` columns are looked at for that. A row has 1 in its own column, and all others have 0 there.
    """
    rest = [list(row) for row in rows]
    found = []
    own = []
    for at in range(many):
        heads = [k for k, other in enumerate(rest) if other[at] != ZERO]
        if heads:
            row = rest.pop(heads[0])
            head = multiple(row, inverted(row[at]))
            rest = [cleared(other, head, at) for other in rest]
            found = [cleared(other, head, at) for other in found] + [head]
            own.append(at)
    return found, own


def multiple(row, factor):
    """Return a multiple of a row."""
    return [multiplied(worth, factor) for worth in row]


def cleared(row, head, at):
    """Return a row less so much of another one, which has 1 in a column, that it has 0 there."""
    if row[at] == ZERO:
        return row
    return [taken(worth, multiplied(row[at], other)) for worth, other in zip(row, head)]


def solution(rows, rights):
    """Return unknown values for which each row gives its right side; there are such ones."""
    many = len(rows[0])
    found, own = reduced([list(row) + [right] for row, right in zip(rows, rights)], many)
    unknown = [ZERO] * many
    for row, at in zip(found, own):
        unknown[at] = row[-1]
    return unknown


def balance(rows, many):
    """Return so many unknown values, not all 0, for which each row gives 0, or None if there are none."""
    found, own = reduced(rows, many)
    free = [at for at in range(many) if at not in own]
    if not free:
        return None
    unknown = [ZERO] * many
    unknown[free[0]] = ONE
    for row, at in zip(found, own):
        unknown[at] = negated(row[free[0]])
    return unknown
