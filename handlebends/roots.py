"""Roots of one polynomial: how many lie between two times, and between which times each one lies.

Polynomials are lists of the integers by which 1, t, t * t, .. come here, the last one not 0.
"""

from math import gcd, lcm

from handlebends.ratios import added, divided, halfway, is_less, multiplied, sign_of, taken


def whole_powers(powers):
    """Return the least multiple, by a number above 0, in integers, of a polynomial in pairs."""
    scale = 1
    for _, q in powers:
        scale = lcm(scale, q)
    return _plain([p * (scale // q) for p, q in powers])


def _plain(whole):
    """Return integers without those of 0 at their end and without their common divisor."""
    shared = 0
    for n in whole:
        shared = gcd(shared, n)
    size = max([k + 1 for k, n in enumerate(whole) if n != 0], default=0)
    return [n // shared for n in whole[:size]]


def chain_of(powers):
    """Return Sturm's chain of a polynomial in pairs that is not nought.

    Its first polynomial has the same roots, each of them once. From a time to a later one the signs of the chain lose
    as many changes as this polynomial has roots behind the first time and up to the second one.
    """
    whole = whole_powers(powers)
    chain = [whole, _plain([k * n for k, n in enumerate(whole)][1:])]
    while chain[-1]:
        chain.append(_turned_remainder(chain[-2], chain[-1]))
    chain.pop()
    return [_quotient(part, chain[-1]) for part in chain]


def _turned_remainder(one, other):
    """Return a multiple, by a number below 0, of the remainder of one polynomial by another one."""
    lead = other[-1]
    rest = one
    while len(rest) >= len(other):
        rest = _without_top(rest, other, abs(lead), sign_of(lead) * rest[-1])
    return _plain([-n for n in rest])


def _quotient(one, other):
    """Return one polynomial by another one that divides it and has no common divisor."""
    rest = one
    found = []
    while len(rest) >= len(other):
        found.append(rest[-1] // other[-1])
        rest = _without_top(rest, other, 1, found[-1])
    return found[::-1]


def _without_top(rest, other, scale, many):
    """Return `scale` times a polynomial less `many` times another one below its top, where the top goes."""
    shift = len(rest) - len(other)
    low = [scale * n for n in rest[:shift]]
    high = [scale * a - many * b for a, b in zip(rest[shift:], other)]
    return low + high[:-1]


def _value_at(whole, when):
    """Return the value of a polynomial at a time: a numerator, and a divisor above 0."""
    p, q = when
    result, scale = whole[-1], 1
    for n in whole[:-1][::-1]:
        scale = scale * q
        result = result * p + n * scale
    return result, scale


def sign_at(whole, when):
    """Return the sign of a polynomial at a time."""
    return sign_of(_value_at(whole, when)[0])


def _changes(chain, when):
    """Return how often the signs of a chain change at a time."""
    signs = [sign_at(part, when) for part in chain]
    told = [sign for sign in signs if sign != 0]
    return len([late for early, late in zip(told, told[1:]) if early != late])


def _roots_between(chain, low, high):
    """Return how many roots lie between two times, without both."""
    behind = 1 if sign_at(chain[0], high) == 0 else 0
    return _changes(chain, low) - _changes(chain, high) - behind


def is_simple_root(powers, whole, low, high):
    """Tell whether the only root of a polynomial in pairs between two times, which are no roots, is one just once.

    The second polynomial has the same roots, each of them once, and the numbers in it have no common divisor.
    """
    rest = _quotient(whole_powers(powers), whole)
    return root_ranges(chain_of([(n, 1) for n in rest]), low, high) == []


def root_ranges(chain, low, high):
    """Return pairs of times, ascending, one for each root between two times, without both.

    A pair is the root twice, or two times that are no roots and have just this root between them.
    """
    found = []
    waiting = [(low, high)]
    while waiting:
        low, high = waiting.pop()
        many = 1 if low == high else _roots_between(chain, low, high)
        if many == 1 and (low == high or not _has_root_end(chain, low, high)):
            found.append((low, high))
        elif many > 0:
            middle = halfway(low, high)
            waiting.append((middle, high))
            if sign_at(chain[0], middle) == 0:
                waiting.append((middle, middle))
            waiting.append((low, middle))
    return found


def _has_root_end(chain, low, high):
    """Tell whether one of two times is a root."""
    return sign_at(chain[0], low) == 0 or sign_at(chain[0], high) == 0


def narrowed(whole, low, high, near):
    """Return two times, apart by less than `near`, around the only root between two times, or the root twice.

    The two times are no roots, and the sign of the polynomial changes between them.
    """
    parts = 2
    while low != high and not is_less(taken(high, low), near):
        left, right = _guessed_part(whole, low, high, parts)
        found = _nearest_around(whole, (low, left, right, high))
        # Where a guess is right, a much finer one will mostly be right too, so few steps lead to any nearness.
        parts = parts * parts if found == (left, right) else 2
        low, high = found
    return low, high


def _guessed_part(whole, low, high, parts):
    """Return the one of so many equal parts in which the straight line between two values is nought."""
    top, one = _value_at(whole, low)
    bottom, other = _value_at(whole, high)
    ahead = abs(top) * other
    at = parts * ahead // (ahead + abs(bottom) * one)
    step = divided(taken(high, low), (parts, 1))
    left = added(low, multiplied(step, (at, 1)))
    return left, added(left, step)


def _nearest_around(whole, times):
    """Return those two neighbouring ones of four ascending times around a root, or the root twice."""
    low, left, right, high = times
    if sign_at(whole, left) == 0:
        return left, left
    if sign_at(whole, right) == 0:
        return right, right
    if sign_at(whole, left) != sign_at(whole, low):
        return low, left
    return (left, right) if sign_at(whole, right) != sign_at(whole, low) else (right, high)
