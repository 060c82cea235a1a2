"""Polynomials: sequences of the pairs by which 1, t, t * t, .. come."""

from math import comb

from handlebends.ratios import ONE, ZERO, added, divided, multiplied, taken, total


def power_degree(powers):
    """Return the degree of a polynomial, 0 for nought."""
    return max([k for k, worth in enumerate(powers) if worth != ZERO], default=0)


def power_value(powers, when):
    """Return the value of a polynomial at a time."""
    result = ZERO
    for worth in powers[::-1]:
        result = added(multiplied(result, when), worth)
    return result


def power_slope(powers):
    """Return the slope of a polynomial."""
    return [multiplied(powers[k], (k, 1)) for k in range(1, len(powers))]


def power_sum(one, other):
    """Return two polynomials together."""
    size = max(len(one), len(other))
    return [added(a, b) for a, b in zip(_filled(one, size), _filled(other, size))]


def power_difference(one, other):
    """Return one polynomial less another one."""
    size = max(len(one), len(other))
    return [taken(a, b) for a, b in zip(_filled(one, size), _filled(other, size))]


def power_product(one, other):
    """Return the product of two polynomials."""
    result = [ZERO] * (len(one) + len(other) - 1)
    for i, a in enumerate(one):
        for j, b in enumerate(other):
            result[i + j] = added(result[i + j], multiplied(a, b))
    return result


def _filled(powers, size):
    """Return a polynomial with as many powers as told."""
    return list(powers) + [ZERO] * (size - len(powers))


def agreeing_slopes(left, right, when):
    """Return how many first slopes of two polynomials with one value agree there, None if all do."""
    rest = power_difference(left, right)
    for many in range(len(rest) - 1):
        rest = power_slope(rest)
        if power_value(rest, when) != ZERO:
            return many
    return None


def mixed(early, late, low, high):
    """Return what goes straight from one polynomial at a time to another one at a later time."""
    standing = [taken(multiplied(high, a), multiplied(low, b)) for a, b in zip(early, late)]
    rising = [taken(b, a) for a, b in zip(early, late)]
    span = taken(high, low)
    return tuple([divided(added(a, b), span) for a, b in zip(standing + [ZERO], [ZERO] + rising)])


def polar_value(powers, times):
    """Return the value of the polar form of a polynomial, whose degree is at most the number of times.

    That form is straight in each time, minds no order, and is the polynomial if all times are the same.
    """
    many = len(times)
    return total([divided(multiplied(worth, part), (comb(many, k), 1))
                  for k, (worth, part) in enumerate(zip(powers, _product_sums(times)))])


def _product_sums(times):
    """Return the sums of all products of no time, of one time, of two times, .."""
    sums = [ONE]
    for when in times:
        longer = [ZERO] + [multiplied(worth, when) for worth in sums]
        sums = [added(a, b) for a, b in zip(sums + [ZERO], longer)]
    return sums
