"""Points of the plane, pairs of fractions, and what can be told of a few of them."""

from leastfield.errors import InvalidPoint, Refused
from leastfield.fractions import ONE, fraction, half, is_fraction, minus, plus, sign_of, times, whole
from leastfield.grid import on_grid
from leastfield.kinds import is_tuple_of


def need_point(value):
    if not is_tuple_of(value, 2):
        raise InvalidPoint(-1)
    for at, thing in enumerate(value):
        if not is_fraction(thing):
            raise InvalidPoint(at)


def is_point(value):
    return is_tuple_of(value, 2) and is_fraction(value[0]) and is_fraction(value[1])


def point_at(x, y):
    return (whole(x), whole(y))


def moved(a, b, part):
    """The point a and a part of the way from a to b."""
    return (plus(a[0], times(part, minus(b[0], a[0]))), plus(a[1], times(part, minus(b[1], a[1]))))


def middle(a, b):
    return moved(a, b, half(ONE))


def _whole_dot(a, b, c):
    """The scalar product of the ways from a to b and from a to c."""
    return (b[0] - a[0]) * (c[0] - a[0]) + (b[1] - a[1]) * (c[1] - a[1])


def dot(a, b, c):
    bottom, (p, q, r) = on_grid((a, b, c))
    return fraction(_whole_dot(p, q, r), bottom * bottom)


def squared_distance(a, b):
    return dot(a, b, b)


def whole_area(a, b, c):
    """Twice the area of a triangle of pairs of integers, above 0 if they are turned left."""
    return (b[0] - a[0]) * (c[1] - a[1]) - (b[1] - a[1]) * (c[0] - a[0])


def whole_turn(a, b, c):
    return sign_of(whole(whole_area(a, b, c)))


def doubled_area(a, b, c):
    bottom, (p, q, r) = on_grid((a, b, c))
    return fraction(whole_area(p, q, r), bottom * bottom)


def turn(a, b, c):
    _, (p, q, r) = on_grid((a, b, c))
    return whole_turn(p, q, r)


def _whole_circle(a, b, c, d):
    """The circle number of pairs of integers: the third column times the minors of the other two."""
    return (_whole_dot(d, a, a) * whole_area(d, b, c)
            + _whole_dot(d, b, b) * whole_area(d, c, a)
            + _whole_dot(d, c, c) * whole_area(d, a, b))


def circle_number(a, b, c, d):
    bottom, (p, q, r, s) = on_grid((a, b, c, d))
    return fraction(_whole_circle(p, q, r, s), bottom * bottom * bottom * bottom)


def circle_side(a, b, c, d):
    _, (p, q, r, s) = on_grid((a, b, c, d))
    return sign_of(whole(_whole_circle(p, q, r, s)))


def circle_centre(a, b, c):
    """The point as far from each of three points."""
    bottom, (p, q, r) = on_grid((a, b, c))
    area = whole_area(p, q, r)
    if area == 0:
        raise Refused("straight")
    first, second = _whole_dot(p, q, q), _whole_dot(p, r, r)
    right = first * (r[1] - p[1]) - second * (q[1] - p[1])
    up = second * (q[0] - p[0]) - first * (r[0] - p[0])
    under = 2 * area * bottom
    return (fraction(2 * area * p[0] + right, under), fraction(2 * area * p[1] + up, under))


def parts_of(a, b, c, p):
    """The parts of three points, with the sum 1, of which a point is the sum."""
    _, (first, second, third, at) = on_grid((a, b, c, p))
    area = whole_area(first, second, third)
    if area == 0:
        raise Refused("straight")
    return (fraction(whole_area(second, third, at), area),
            fraction(whole_area(third, first, at), area),
            fraction(whole_area(first, second, at), area))


def triangle_side(a, b, c, p):
    """1 within a triangle that is turned left, 0 on its border, -1 outside."""
    return min([turn(a, b, p), turn(b, c, p), turn(c, a, p)])


def whole_on(a, b, p):
    """Whether a pair of integers lies on the way from a to b, the ends counted."""
    return (min(a[0], b[0]) <= p[0] <= max(a[0], b[0])
            and min(a[1], b[1]) <= p[1] <= max(a[1], b[1])
            and whole_area(a, b, p) == 0)


def on_segment(a, b, p):
    _, (first, second, at) = on_grid((a, b, p))
    return whole_on(first, second, at)


def whole_crosses(a, b, c, d):
    """Whether two segments have just one point in common, no end of either."""
    return (whole_turn(a, b, c) * whole_turn(a, b, d) < 0
            and whole_turn(c, d, a) * whole_turn(c, d, b) < 0)


def crosses(a, b, c, d):
    _, (p, q, r, s) = on_grid((a, b, c, d))
    return whole_crosses(p, q, r, s)


def crossing_point(a, b, c, d):
    """The point in which two segments cross, None if they do not."""
    _, (p, q, r, s) = on_grid((a, b, c, d))
    if not whole_crosses(p, q, r, s):
        return None
    before, behind = whole_area(r, s, p), whole_area(r, s, q)
    return moved(a, b, fraction(before, before - behind))


def foot_of(a, b, p):
    """The point nearest to p on the line through a and b."""
    _, (first, second, at) = on_grid((a, b, p))
    if first == second:
        raise Refused("same")
    return moved(a, b, fraction(_whole_dot(first, second, at), _whole_dot(first, second, second)))
