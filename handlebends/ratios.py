"""Values, which are pairs (p, q) for p / q: what is one, how they are reckoned with, told and read."""

from math import gcd

ZERO = (0, 1)
ONE = (1, 1)
CHUNK_DIGITS = 18
CHUNK = 10 ** 18
MOST_DIGITS = 9


def is_whole(thing):
    """Tell whether any value at all is an integer."""
    return isinstance(thing, int) and not isinstance(thing, bool)


def is_sequence(thing):
    """Tell whether any value at all is a sequence."""
    return isinstance(thing, (list, tuple))


def is_value(thing):
    """Tell whether any value at all is a value, or an integer for one."""
    if is_whole(thing):
        return True
    if not isinstance(thing, tuple) or len(thing) != 2:
        return False
    p, q = thing
    return is_whole(p) and is_whole(q) and q >= 1 and gcd(p, q) == 1


def are_values(thing):
    """Tell whether any value at all is a sequence of values."""
    return is_sequence(thing) and all([is_value(part) for part in thing])


def pair(worth):
    """Return a value, or an integer for one, as a pair."""
    return worth if isinstance(worth, tuple) else (worth, 1)


def pairs(worths):
    """Return a sequence of values as a tuple of pairs."""
    return tuple([pair(worth) for worth in worths])


def ratio(p, q):
    """Return p / q as a pair, for a q above 0."""
    shared = gcd(p, q)
    return (p // shared, q // shared)


def added(a, b):
    """Return a + b."""
    return ratio(a[0] * b[1] + b[0] * a[1], a[1] * b[1])


def taken(a, b):
    """Return a - b."""
    return ratio(a[0] * b[1] - b[0] * a[1], a[1] * b[1])


def multiplied(a, b):
    """Return a * b."""
    return ratio(a[0] * b[0], a[1] * b[1])


def divided(a, b):
    """Return a / b, for a b above 0."""
    return ratio(a[0] * b[1], a[1] * b[0])


def inverted(a):
    """Return 1 / a, for an a that is not 0."""
    return (a[1], a[0]) if a[0] > 0 else (-a[1], -a[0])


def negated(a):
    """Return -a."""
    return (-a[0], a[1])


def size_of(a):
    """Return a without its sign."""
    return (abs(a[0]), a[1])


def total(worths):
    """Return all of these pairs together."""
    result = ZERO
    for worth in worths:
        result = added(result, worth)
    return result


def least_of(worths):
    """Return the least one of at least one pair."""
    result = worths[0]
    for worth in worths[1:]:
        result = worth if is_less(worth, result) else result
    return result


def halfway(a, b):
    """Return the middle between a and b."""
    return ratio(a[0] * b[1] + b[0] * a[1], 2 * a[1] * b[1])


def is_less(a, b):
    """Tell whether a < b."""
    return a[0] * b[1] < b[0] * a[1]


def sign_of(n):
    """Return the sign of an integer."""
    if n == 0:
        return 0
    return 1 if n > 0 else -1


def _tell_whole(n):
    """Return the decimal digits of an integer, with its sign."""
    # Python's own str refuses integers of more than 4300 digits, and results may grow beyond that.
    rest = abs(n)
    chunks = []
    while rest >= CHUNK:
        rest, low = divmod(rest, CHUNK)
        chunks.append(str(low).zfill(CHUNK_DIGITS))
    chunks.append(str(rest))
    sign = "-" if n < 0 else ""
    return sign + "".join(chunks[::-1])


def tell_value(worth):
    """Return the text of a pair."""
    p, q = worth
    return _tell_whole(p) if q == 1 else f"{_tell_whole(p)}/{_tell_whole(q)}"


def tell_values(worths):
    """Return the texts of pairs, with single spaces between."""
    return " ".join([tell_value(worth) for worth in worths])


def read_number(word):
    """Return the number that a word tells, or None if it tells none."""
    if not word.isascii() or not word.isdecimal() or len(word) > MOST_DIGITS:
        return None
    return None if word != "0" and word.startswith("0") else int(word)


def read_value(word):
    """Return the pair that a word tells, or None if it tells none."""
    sign = -1 if word.startswith("-") else 1
    top, slash, below = word.removeprefix("-").partition("/")
    p = read_number(top)
    q = read_number(below) if slash else 1
    if p is None or q is None:
        return None
    worth = (sign * p, q)
    # Told again it is another text if the word was "-0" or had a divisor of 1.
    return worth if is_value(worth) and tell_value(worth) == word else None


def read_values(words):
    """Return the pairs that words tell, or None if one of them tells none."""
    worths = [read_value(word) for word in words]
    return None if None in worths else worths
