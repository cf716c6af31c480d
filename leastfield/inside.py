"""Where points lie in a plate, and its area in strips."""

from leastfield.fractions import ZERO, fraction, half, minus, plus, times, total_of, whole
from leastfield.grid import on_grid
from leastfield.plates import corners_of, rings_of, sides_of
from leastfield.points import point_at
from leastfield.ranks import ascending
from leastfield.rings import place_in, side_at, turns_round


def _with_point(ring, point):
    """A ring and a point, both multiplied so that the point is a pair of integers."""
    bottom, (pair,) = on_grid((point,))
    return [(x * bottom, y * bottom) for x, y in ring], pair


def ring_turns(ring, point):
    grown, pair = _with_point(ring, point)
    return turns_round(grown, pair)


def ring_side(ring, point):
    grown, pair = _with_point(ring, point)
    return place_in(grown, pair)


def side_of(plate, point):
    """1 for a point inside a plate, 0 for one on a side, -1 for one outside."""
    # Outside a hole is inside the plate.
    return min([ring_side(plate.outer, point)] + [-ring_side(hole, point) for hole in plate.holes])


def where_in(plate, point):
    """The corner or the side that a point is on, else whether it is inside or outside."""
    corners = corners_of(plate)
    points = [point_at(x, y) for x, y in corners]
    if point in points:
        return ("corner", points.index(point))
    for ring in rings_of(plate):
        grown, pair = _with_point([corners[number] for number in ring], point)
        at = side_at(grown, pair)
        if at is not None:
            return ("side", ring[at])
    if side_of(plate, point) == 1:
        return ("inside",)
    return ("outside",)


def _strips(plate):
    """The pairs of neighbouring heights of corners."""
    heights = sorted(set([y for _, y in corners_of(plate)]))
    return list(zip(heights, heights[1:]))


def _crossed_half_way(plate, low, high):
    """How far to the right the sides are that cross the height half way up a strip, ascending by worth."""
    corners = corners_of(plate)
    found = []
    for one, other in sides_of(plate):
        (x, y), (right, up) = corners[one], corners[other]
        if min(y, up) <= low and max(y, up) >= high:
            found.append(fraction(2 * x * (up - y) + (low + high - 2 * y) * (right - x), 2 * (up - y)))
    return ascending(found)


def inner_point(plate):
    """A point half way up the lowest strip, half way between the first two sides there."""
    low, high = _strips(plate)[0]
    left, right = _crossed_half_way(plate, low, high)[:2]
    return (half(plus(left, right)), fraction(low + high, 2))


def _length_inside(crossed):
    """The sum of the ways from each first to each second of what is crossed."""
    total = ZERO
    for left, right in zip(crossed[::2], crossed[1::2]):
        total = plus(total, minus(right, left))
    return total


def strips_area(plate):
    """Twice the area of a plate, from strips between the heights of its corners."""
    return total_of([times(whole(2 * (high - low)), _length_inside(_crossed_half_way(plate, low, high)))
                     for low, high in _strips(plate)])
