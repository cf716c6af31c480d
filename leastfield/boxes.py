"""Linear functions as triples (rise to the right, rise upwards, worth at (0, 0)), and triangles cut to boxes."""

from leastfield.fractions import ONE, ZERO, compared, minus, negative, over, plus, times, total_of
from leastfield.points import moved
from leastfield.slopes import slope


def worth_in(function, point):
    """The worth of a linear function at a point."""
    right, up, start = function
    return total_of((times(right, point[0]), times(up, point[1]), start))


def _beside(a, b):
    """The function that is the doubled area of a, b and the point that it is asked for."""
    right, up = minus(a[1], b[1]), minus(b[0], a[0])
    return (right, up, negative(plus(times(right, a[0]), times(up, a[1]))))


def heights_of(mesh, number, box):
    """The seven heights at a triangle and a box."""
    a, b, c = [mesh.points[corner] for corner in mesh.triangles[number]]
    (left, bottom), (right, top) = box
    return (_beside(a, b), _beside(b, c), _beside(c, a),
            (ONE, ZERO, negative(left)), (negative(ONE), ZERO, right),
            (ZERO, ONE, negative(bottom)), (ZERO, negative(ONE), top))


def field_function(mesh, number, field):
    """The linear function that a field is on a triangle."""
    right, up = slope(mesh, number, field)
    corner = mesh.triangles[number][0]
    x, y = mesh.points[corner]
    return (right, up, minus(field[corner], plus(times(right, x), times(up, y))))


def _cut(corners, function):
    """The corners of what is left of a convex polygon where a function is not below 0."""
    left = []
    for one, other in zip(corners, corners[1:] + corners[:1]):
        here, there = worth_in(function, one), worth_in(function, other)
        if here[0] >= 0:
            left.append(one)
        if here[0] * there[0] < 0:
            left.append(moved(one, other, over(here, minus(here, there))))
    return left


def corners_in(mesh, number, box):
    """The corners of what a triangle and a box have in common; none if they are apart."""
    corners = [mesh.points[corner] for corner in mesh.triangles[number]]
    for height in heights_of(mesh, number, box)[3:]:
        corners = _cut(corners, height)
    return corners


def is_in_box(box, point):
    low, high = box
    return all([compared(low[at], point[at]) <= 0 and compared(point[at], high[at]) <= 0 for at in (0, 1)])
