"""Longest edges, halved until none is too long."""

from leastfield.errors import InvalidSize
from leastfield.fractions import ZERO, compared, fraction, is_positive, times
from leastfield.meshes import edges_of
from leastfield.points import squared_distance
from leastfield.putting import middle_of, put_in


def _squares(mesh):
    """The list of the pairs of the squared length of an edge and the edge, by ascending edges."""
    points = mesh.points
    return [(squared_distance(points[low], points[high]), (low, high)) for low, high in edges_of(mesh)]


def _longest(mesh):
    """The squared length of the longest edge, and the least edge of this length."""
    longest, best = ZERO, None
    for square, edge in _squares(mesh):
        if compared(square, longest) > 0:
            longest, best = square, edge
    return longest, best


def longest_edge(mesh):
    _, edge = _longest(mesh)
    return edge


def _need_size(size):
    if not is_positive(size):
        raise InvalidSize("size")


def _halve(mesh, size):
    """The points that are put in until no edge is too long, and the mesh behind them."""
    _need_size(size)
    points = []
    square, edge = _longest(mesh)
    while compared(square, size) > 0:
        points.append(middle_of(mesh, edge))
        mesh = put_in(mesh, points[-1])
        square, edge = _longest(mesh)
    return tuple(points), mesh


def halvings(mesh, size):
    points, _ = _halve(mesh, size)
    return points


def halved(mesh, size):
    _, behind = _halve(mesh, size)
    return behind


def _most_of(square, size):
    """How many halvings can come of an edge: four shorter edges of each one, so often as one is too long."""
    total, part = 0, 1
    while compared(square, size) > 0:
        total, part = total + part, 4 * part
        square = times(square, fraction(3, 4))
    return total


def halvings_bound(mesh, size):
    _need_size(size)
    return sum([_most_of(square, size) for square, _ in _squares(mesh)])
