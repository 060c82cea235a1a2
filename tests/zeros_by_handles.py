"""Zero places told in another way than the package does: by handles of parts cut in halves, in Fractions."""

from fractions import Fraction
from math import comb

from handlebends.pieces import from_pieces, pieces

import support


def trimmed(powers):
    """A polynomial without powers by which nothing comes at its end."""
    row = [Fraction(worth) for worth in powers]
    while row and row[-1] == 0:
        row.pop()
    return row


def divided(one, other):
    """The quotient and the remainder of two polynomials."""
    rest, quotient = trimmed(one), [Fraction(0)] * max(len(one) - len(other) + 1, 1)
    while len(rest) >= len(other):
        shift, by = len(rest) - len(other), rest[-1] / other[-1]
        quotient[shift] = by
        rest = trimmed([a - by * b for a, b in zip(rest, [0] * shift + list(other))][:-1])
    return quotient, rest


def without_repeated_roots(powers):
    """A polynomial with the same roots, each of them once."""
    one = trimmed(powers)
    low, high = trimmed([k * worth for k, worth in enumerate(one)][1:]), one
    while low:
        low, high = divided(high, low)[1], low
    return trimmed(divided(one, high)[0])


def handles_between(powers, low, high):
    """The handles of a polynomial over a stretch without inner marks."""
    many = len(powers) - 1
    moved = [Fraction(0)] * (many + 1)
    for k, worth in enumerate(powers):
        for i in range(k + 1):
            moved[i] += worth * comb(k, i) * low ** (k - i) * (high - low) ** i
    return [sum(Fraction(comb(i, k), comb(many, k)) * moved[k] for k in range(i + 1)) for i in range(many + 1)]


def changes(handles):
    """How often the signs of handles change."""
    told = [handle > 0 for handle in handles if handle != 0]
    return sum(early != late for early, late in zip(told, told[1:]))


def roots_between(powers, low, high):
    """Pairs, one for each root between two times, without both: the root twice, or two times around it alone.

    The polynomial has no root twice. A pair of two times may have roots at its ends.
    """
    many = changes(handles_between(powers, low, high))
    if many < 2:
        return [(low, high)] * many
    middle = (low + high) / 2
    here = [(middle, middle)] if support.polynomial(powers, middle) == 0 else []
    return roots_between(powers, low, middle) + here + roots_between(powers, middle, high)


class Zeros:
    """The zero places of a bend: times by themselves and stretches, and the signs between them."""

    def __init__(self, bend):
        self.rows = [(support.frac(start), support.frac(end), [support.frac(worth) for worth in powers])
                     for start, end, powers in pieces(bend)]
        self.first, self.last = self.rows[0][0], self.rows[-1][1]
        self.stretches = []
        for start, end, powers in self.rows:
            if not any(powers):
                early = self.stretches.pop()[0] if self.stretches and self.stretches[-1][1] == start else start
                self.stretches.append((early, end))

    def height(self, t):
        """The value of the curve at a time."""
        return next(support.polynomial(powers, t) for start, end, powers in self.rows if start <= t <= end)

    def times(self, low, high):
        """Pairs as those of `roots_between`, for the zero times from a time to another one that are in no stretch."""
        found = []
        for start, end, powers in self.rows:
            early, late = max(start, low), min(end, high)
            if early < late and any(powers):
                found += roots_between(without_repeated_roots(powers), early, late)
        ends = {low, high} | {end for row in self.rows for end in row[:2] if low <= end <= high}
        found += [(t, t) for t in sorted(ends) if self.height(t) == 0 and not self.within_stretch(t)]
        return sorted(found)

    def within_stretch(self, t):
        """Whether a time is in a stretch of nought."""
        return any(low <= t <= high for low, high in self.stretches)

    def many(self, low, high):
        """How many zero places have a time from a time to another one."""
        if high < low:
            return 0
        return len(self.times(low, high)) + sum(early <= high and low <= late for early, late in self.stretches)

    def holds(self, value):
        """Whether some pairs of Fractions are right as places, by [14]."""
        if len(value) != self.many(self.first, self.last):
            return False
        return all(self.tells(at, *pair) for at, pair in enumerate(value))

    def tells(self, at, a, b):
        """Whether two times tell the zero place with a number."""
        if (a, b) in self.stretches:
            return self.many(self.first, a) == at + 1
        if not self.first <= a <= b <= self.last or self.many(a, b) != 1:
            return False
        if any(early <= b and a <= late for early, late in self.stretches):
            return False
        return self.many(self.first, b) == at + 1

    def signs(self):
        """The row of signs: those at the ends, and one between each zero place and the next one."""
        many = self.many(self.first, self.last)
        row = [self.sign(self.first)]
        for at in range(1, many):
            row += [0, self.sign(self.time_behind(at))]
        row += [0] * (many > 0) + [self.sign(self.last)]
        return tuple(sign for k, sign in enumerate(row) if k == 0 or sign != row[k - 1])

    def sign(self, t):
        """The sign of the curve at a time."""
        height = self.height(t)
        return (height > 0) - (height < 0)

    def time_behind(self, many):
        """A time behind so many zero places and ahead of the next one."""
        low, high = self.first, self.last
        while True:
            middle = (low + high) / 2
            found = self.many(self.first, middle)
            if found == many and self.height(middle) != 0:
                return middle
            low, high = (middle, high) if found <= many else (low, middle)


def rooted(roots, by=1):
    """The powers of the product of all (t - root), by a factor."""
    row = [Fraction(by)]
    for root in roots:
        row = [a - root * b for a, b in zip([0] + row, row + [0])]
    return row


def drawn(*rows):
    """The bend of pieces in Fractions."""
    return from_pieces([(support.pair_of(Fraction(start)), support.pair_of(Fraction(end)),
                         [support.pair_of(Fraction(worth)) for worth in powers]) for start, end, powers in rows])


def zero_bends():
    """Bends with zeros of all kinds: see the comments."""
    third, near = Fraction(1, 3), Fraction(1, 9999)
    found = []
    # Roots that are fractions, up to four of them, once or more, at the ends and outside too.
    for roots in ([third], [0], [1], [0, 1], [third, third], [0, 0], [1, 1, 1], [third] * 3, [third] * 4, [0, third, 1],
                  [Fraction(1, 2)], [Fraction(1, 2)] * 2, [Fraction(1, 4), Fraction(1, 2), Fraction(3, 4)],
                  [Fraction(1, 4), Fraction(1, 4), Fraction(2, 3), Fraction(2, 3)], [0, 0, 1, 1], [2, third], [-1, 2],
                  [third, third + near], [third, third, third + near], [0, near], [0, near, 2 * near, 1],
                  [1 - near, 1], [third, third + near, third + 2 * near, third + 3 * near], [0, 0, near, near]):
        found += [drawn((0, 1, rooted(roots))), drawn((0, 1, rooted(roots, -5)))]
        if third in roots:
            found.append(drawn((0, third, rooted(roots)), (third, 1, rooted(roots, 2))))
    # Roots that are no fractions: of t * t - 2, of its square, of it and others, of t ** 4 - 2, near one another.
    for powers in ([-2, 0, 1], [4, 0, -4, 0, 1], [2, -2, -1, 1], [-2, 0, 0, 0, 1], [-2, 0, 0, 1], [6, 0, -5, 0, 1],
                   [-1, -1, 1], [1, -3, 0, 1], [2 * 9998 ** 2 - 1, 0, -9998 ** 2], [2, 0, 1], [4, 4, 5, 2, 1]):
        found += [drawn((start, end, powers)) for start, end in ((0, 2), (-2, 2), (1, Fraction(3, 2)), (0, 1))]
    # Nought over stretches, at the beginning, at the end, within, twice.
    up, down = rooted([2]), rooted([1], -1)
    found += [drawn((0, 1, [0]), (1, 2, [0])), drawn((0, 1, down), (1, 2, [0]), (2, 3, up)),
              drawn((0, 1, down), (1, 2, [0]), (2, 3, rooted([2], -1))), drawn((0, 1, [0]), (1, 2, rooted([1]))),
              drawn((0, 1, rooted([1])), (1, 2, [0])), drawn((0, 1, [0]), (1, 2, rooted([1, 2])), (2, 3, [0])),
              drawn((0, 1, [0]), (1, 2, rooted([1, 2])), (2, 3, rooted([2, Fraction(5, 2)]))),
              drawn((0, 1, rooted([1, 1])), (1, 2, [0]), (2, 3, rooted([2, 2, Fraction(9, 4)]))),
              drawn((0, 1, rooted([0, 1])), (1, 2, [0]), (2, 3, rooted([2, 3]))),
              drawn((0, 1, [0]), (1, 2, rooted([1, 1 + near])), (2, 3, rooted([2 + near], 1 - 1 / near)))]
    # Nought at inner marks, with kinks and without them, to the other side and back, one behind the other.
    found += [drawn((0, 1, [-1, 1]), (1, 2, [-2, 2])), drawn((0, 1, [-1, 1]), (1, 2, [1, -1])),
              drawn((0, 1, [1, -1]), (1, 2, [-1, 1]), (2, 3, [3, -1])), drawn((0, 1, [0, 1]), (1, 2, [2, -1])),
              drawn((0, 1, [1, -1]), (1, 2, rooted([1, 2])), (2, 3, rooted([2, 2]))),
              drawn((0, 1, rooted([0, 1])), (1, 2, rooted([1, 2], -1)), (2, 3, rooted([2, 3])))]
    return found
