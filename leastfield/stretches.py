"""Where a straight way meets the sides of a plate, and on which side the parts between are."""

from leastfield.fractions import (ONE, ZERO, compared, fraction, greatest_of, least_of, minus, plus, simplest,
                                  times)
from leastfield.grid import on_grid
from leastfield.inside import side_of
from leastfield.plates import corners_of, sides_of
from leastfield.points import moved, whole_area
from leastfield.ranks import unlike


def _part_at(a, b, c):
    """Which part of the way from a to b leads to c, a pair of integers on their line."""
    right, up = b[0] - a[0], b[1] - a[1]
    return fraction((c[0] - a[0]) * right + (c[1] - a[1]) * up, right * right + up * up)


def _common_ends(a, b, c, d):
    """The ends of what the way and a side on its line have in common, none if they are apart."""
    first, second = _part_at(a, b, c), _part_at(a, b, d)
    low = greatest_of((ZERO, least_of((first, second))))
    high = least_of((ONE, greatest_of((first, second))))
    return [low, high] if compared(low, high) <= 0 else []


def _meetings_with(a, b, c, d):
    """The parts of the way from a to b at which it meets a side, all told in pairs of integers."""
    begin, end = whole_area(a, b, c), whole_area(a, b, d)
    if begin == 0 and end == 0:
        return _common_ends(a, b, c, d)
    if min(begin, end) > 0 or max(begin, end) < 0:
        return []
    # The side comes to both sides of the way's line: so they are not parallel.
    part = fraction(whole_area(c, d, a), whole_area(c, d, a) - whole_area(c, d, b))
    return [part] if compared(part, ZERO) >= 0 and compared(part, ONE) <= 0 else []


def meetings(plate, a, b):
    """The parts of the way from a to b at which it is on a side; of a common stretch, both ends."""
    bottom, (first, second) = on_grid((a, b))
    corners = [(x * bottom, y * bottom) for x, y in corners_of(plate)]
    return tuple(unlike([part for one, other in sides_of(plate)
                         for part in _meetings_with(first, second, corners[one], corners[other])]))


def _within(low, high):
    """A fraction strictly between two, a short one: so points there are short, too."""
    quarter = times(fraction(1, 4), minus(high, low))
    return simplest(plus(low, quarter), minus(high, quarter))


def stretches(plate, a, b):
    """The parts of the way from a to b between all meetings, and on which side of the plate they are."""
    parts = unlike([ZERO, ONE] + list(meetings(plate, a, b)))
    return tuple([(low, high, side_of(plate, moved(a, b, _within(low, high))))
                  for low, high in zip(parts, parts[1:])])


def lies_in(plate, a, b):
    """Whether no part of the way from a to b is outside."""
    return all([side >= 0 for _, _, side in stretches(plate, a, b)])
