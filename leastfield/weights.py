"""The weights of edges: half the sum of the cotangents of the angles opposite."""

from leastfield.errors import Refused
from leastfield.fractions import ZERO, half, negative, over, plus, times, whole
from leastfield.meshes import opposites
from leastfield.points import circle_number, dot, doubled_area
from leastfield.thirds import edge_between, is_inner, thirds_of


def cotangent(a, b, c):
    """The cotangent of the angle at a, of three points that are turned left."""
    return over(dot(a, b, c), doubled_area(a, b, c))


def weight(mesh, edge):
    left, right = opposites(mesh, edge)
    low, high = mesh.points[edge[0]], mesh.points[edge[1]]
    total = ZERO
    if left is not None:
        total = plus(total, cotangent(mesh.points[left], low, high))
    if right is not None:
        total = plus(total, cotangent(mesh.points[right], high, low))
    return half(total)


def weights_of(mesh):
    """All edges with their weights, ascending."""
    points = mesh.points
    totals = {}
    for (one, other), third in thirds_of(mesh.triangles).items():
        edge = edge_between(one, other)
        totals[edge] = plus(totals.get(edge, ZERO), cotangent(points[third], points[one], points[other]))
    return tuple([(low, high, half(totals[(low, high)])) for low, high in sorted(totals)])


def weight_by_circle(mesh, edge):
    """The weight of an inner edge, from the circle number of the corners around it."""
    left, right = opposites(mesh, edge)
    if left is None or right is None:
        raise Refused("border")
    points = mesh.points
    p, q, r, s = points[edge[0]], points[edge[1]], points[left], points[right]
    areas = times(doubled_area(p, q, r), doubled_area(q, p, s))
    return over(negative(circle_number(p, q, r, s)), times(whole(2), areas))


def heavy_borders(mesh):
    """The border edges whose weight is below 0."""
    thirds = thirds_of(mesh.triangles)
    return tuple([(low, high) for low, high, much in weights_of(mesh)
                  if much[0] < 0 and not is_inner(thirds, (low, high))])
