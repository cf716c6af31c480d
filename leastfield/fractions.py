"""Fractions: tuples (top, bottom) of integers in lowest terms, the bottom above 0."""

from math import gcd

from leastfield.errors import InvalidFraction, InvalidSize, InvalidText
from leastfield.figures import is_number_text, is_whole_text
from leastfield.kinds import are_ints

ZERO = (0, 1)
ONE = (1, 1)


def _fault_of(value):
    """What InvalidFraction tells of a value, None of a fraction."""
    if not are_ints(value, 2):
        return -1
    top, bottom = value
    if bottom <= 0:
        return 1
    if gcd(top, bottom) != 1:
        return 0
    return None


def need_fraction(value):
    fault = _fault_of(value)
    if fault is not None:
        raise InvalidFraction(fault)


def is_fraction(value):
    return _fault_of(value) is None


def is_positive(value):
    """Whether a value is a fraction above 0."""
    return is_fraction(value) and value[0] > 0


def fraction(top, bottom):
    """The fraction that is the quotient of two integers."""
    if bottom == 0:
        raise InvalidSize("bottom")
    common = gcd(top, bottom)
    if bottom < 0:
        common = -common
    return (top // common, bottom // common)


def whole(number):
    return (number, 1)


def plus(one, other):
    """The sum; to divide before multiplying keeps the numbers short whose common divisors are sought."""
    top, bottom = one
    more, under = other
    common = gcd(bottom, under)
    rest = bottom // common
    total = top * (under // common) + more * rest
    # What still divides both divides the common part.
    left = gcd(total, common)
    return (total // left, rest * (under // left))


def minus(one, other):
    return plus(one, negative(other))


def times(one, other):
    """The product: only the top of one and the bottom of the other can have a common divisor."""
    top, bottom = one
    more, under = other
    first, second = gcd(top, under), gcd(more, bottom)
    return ((top // first) * (more // second), (bottom // second) * (under // first))


def over(one, other):
    top, bottom = other
    if top == 0:
        raise InvalidSize("bottom")
    if top < 0:
        top, bottom = -top, -bottom
    return times(one, (bottom, top))


def negative(one):
    return (-one[0], one[1])


def half(one):
    return fraction(one[0], 2 * one[1])


def sign_of(one):
    if one[0] > 0:
        return 1
    if one[0] < 0:
        return -1
    return 0


def compared(one, other):
    """1, -1 or 0, as the first one is greater, lesser or equal."""
    return sign_of((one[0] * other[1] - other[0] * one[1], 1))


def floor_of(one):
    return one[0] // one[1]


def ceiling_of(one):
    return -(-one[0] // one[1])


def total_of(some):
    """The sum, of neighbours first: so only the last few sums have long bottoms."""
    parts = list(some)
    if not parts:
        return ZERO
    while len(parts) > 1:
        rest = parts[len(parts) // 2 * 2:]
        parts = [plus(one, other) for one, other in zip(parts[::2], parts[1::2])] + rest
    return parts[0]


def least_of(some):
    if len(some) == 0:
        raise InvalidSize("some")
    least = some[0]
    for one in some:
        if compared(one, least) < 0:
            least = one
    return least


def greatest_of(some):
    return negative(least_of([negative(one) for one in some]))


def mean_of(weights, worths):
    """The mean of worths, each as often as its weight tells."""
    weight = total_of(weights)
    if weight == ZERO:
        raise InvalidSize("weights")
    return over(total_of([times(one, other) for one, other in zip(weights, worths)]), weight)


def simplest(low, high):
    """Of all fractions from low to high the least one of those with the least bottom."""
    if compared(high, low) < 0:
        raise InvalidSize("high")
    taken = []
    # While no integer is between them both have the same whole part; what is over is turned upside down.
    while ceiling_of(low) > floor_of(high):
        part = floor_of(low)
        taken.append(part)
        low, high = over(ONE, minus(high, whole(part))), over(ONE, minus(low, whole(part)))
    found = whole(ceiling_of(low))
    for part in reversed(taken):
        found = plus(whole(part), over(ONE, found))
    return found


def fraction_text(one):
    top, bottom = one
    if bottom == 1:
        return str(top)
    return f"{top}/{bottom}"


def read_fraction(value):
    """The fraction of a text: only just what fraction_text gives is taken."""
    if not isinstance(value, str):
        raise InvalidText(-1)
    top, slash, bottom = value.partition("/")
    if slash == "":
        bottom = "1"
    elif bottom == "1":
        raise InvalidText(0)
    if not (is_whole_text(top) and is_number_text(bottom)):
        raise InvalidText(0)
    found = (int(top), int(bottom))
    if not is_fraction(found):
        raise InvalidText(0)
    return found
