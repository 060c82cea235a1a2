"""The greatest sum under told sums, by the simplex method, in pairs.

A table has a row for each told sum: by how much each unknown value, none of them below 0, comes in it, and its right
side, which is not below 0. Each row has an unknown value of its own: it comes by 1 there, and in no other row. So one
way to keep all sums is that these are the right sides, and all others 0. The goal is a row too: by how much its sum
grows with each of the others, and, as its right side, what it is that way, turned.
"""

from handlebends.linear import cleared, multiple
from handlebends.ratios import divided, inverted, is_less


def climbed(table, own, goal):
    """Return the table, the own ones of its rows and the goal, all said anew, where the goal grows no more.

    The goal must be bounded.
    """
    at = _growing(goal)
    while at is not None:
        k = _first_row(table, own, at)
        head = multiple(table[k], inverted(table[k][at]))
        table = [head if i == k else cleared(row, head, at) for i, row in enumerate(table)]
        own = own[:k] + [at] + own[k + 1:]
        goal = cleared(goal, head, at)
        at = _growing(goal)
    return table, own, goal


def _growing(goal):
    """Return the first unknown value with which the goal grows, or None."""
    # Always to take the first ones, here and where rows are as good, keeps from going round for ever (Bland).
    found = [at for at, worth in enumerate(goal[:-1]) if worth[0] > 0]
    return found[0] if found else None


def _first_row(table, own, at):
    """Return the number of the row that ends first the growing of an unknown value."""
    ends = [(k, divided(row[-1], row[at])) for k, row in enumerate(table) if row[at][0] > 0]
    best, least = ends[0]
    for k, end in ends[1:]:
        if is_less(end, least) or (end == least and own[k] < own[best]):
            best, least = k, end
    return best
