"""How steeply fields rise on triangles."""

from leastfield.fractions import fraction, minus, over, plus, times, total_of
from leastfield.points import doubled_area


def _corners(mesh, number):
    a, b, c = mesh.triangles[number]
    return mesh.points[a], mesh.points[b], mesh.points[c]


def wedge(one, other):
    """The determinant of two ways, each told by its first two fractions."""
    return minus(times(one[0], other[1]), times(one[1], other[0]))


def slope(mesh, number, field):
    """How much a field rises on a triangle for each step to the right, and upwards."""
    a, b, c = _corners(mesh, number)
    worths = [field[corner] for corner in mesh.triangles[number]]
    first, second = minus(worths[1], worths[0]), minus(worths[2], worths[0])
    right = wedge((first, second), (minus(b[1], a[1]), minus(c[1], a[1])))
    up = wedge((minus(b[0], a[0]), minus(c[0], a[0])), (first, second))
    area = doubled_area(a, b, c)
    return (over(right, area), over(up, area))


def linear_field(mesh, start, right, up):
    """The field that is start at the point (0, 0) and rises so much for each step to the right, and upwards."""
    return tuple([total_of((start, times(right, x), times(up, y))) for x, y in mesh.points])


def triangle_energy(mesh, number, field):
    """Half the square of the slope, times the area."""
    right, up = slope(mesh, number, field)
    a, b, c = _corners(mesh, number)
    return times(fraction(1, 4), times(plus(times(right, right), times(up, up)), doubled_area(a, b, c)))
