"""Flips: the other diagonal of two neighbouring triangles, until all edges pass."""

from leastfield.errors import InvalidSize, Refused
from leastfield.fractions import plus, times, total_of
from leastfield.meshes import Mesh, opposites
from leastfield.points import circle_number, circle_side, crosses, doubled_area
from leastfield.thirds import (corners_beside, edge_between, edges_in, flip_in, is_edge_of, is_inner, numbers_of,
                               rings_round, thirds_of, triangles_of, ways_round)


def _need_inner(thirds, edge):
    if not is_edge_of(thirds, edge):
        raise InvalidSize("edge")
    if not is_inner(thirds, edge):
        raise Refused("border")


def _four_points(points, thirds, edge):
    """The ends of an inner edge, low and high, and the corners opposite, left and right."""
    left, right = corners_beside(thirds, edge)
    return points[edge[0]], points[edge[1]], points[left], points[right]


def _side(points, thirds, edge):
    """The sign of the bulge of an inner edge, -1 for a border edge."""
    if not is_inner(thirds, edge):
        return -1
    a, b, c, d = _four_points(points, thirds, edge)
    return circle_side(a, b, c, d)


def _is_crossed(points, thirds, edge):
    """Whether an edge is inner and the segment between the corners opposite crosses it."""
    if not is_inner(thirds, edge):
        return False
    a, b, c, d = _four_points(points, thirds, edge)
    return crosses(a, b, c, d)


def bulge(mesh, edge):
    thirds = thirds_of(mesh.triangles)
    _need_inner(thirds, edge)
    a, b, c, d = _four_points(mesh.points, thirds, edge)
    return circle_number(a, b, c, d)


def _thirds_at(mesh, edge):
    """The thirds of a mesh, if the value is an edge of it."""
    thirds = thirds_of(mesh.triangles)
    if not is_edge_of(thirds, edge):
        raise InvalidSize("edge")
    return thirds


def passes(mesh, edge):
    return _side(mesh.points, _thirds_at(mesh, edge), edge) <= 0


def _failing_in(points, thirds):
    return [edge for edge in edges_in(thirds) if _side(points, thirds, edge) > 0]


def failing(mesh):
    """The edges that fail: the corner opposite lies within the circle of the triangle on the other side."""
    return tuple(_failing_in(mesh.points, thirds_of(mesh.triangles)))


def can_flip(mesh, edge):
    return _is_crossed(mesh.points, _thirds_at(mesh, edge), edge)


def new_edge(mesh, edge):
    """The edge that comes by a flip."""
    flipped(mesh, edge)
    left, right = opposites(mesh, edge)
    return edge_between(left, right)


def run_flips(mesh, edges):
    """The mesh behind some flips, one by one."""
    thirds = thirds_of(mesh.triangles)
    for edge in edges:
        _need_inner(thirds, edge)
        if not _is_crossed(mesh.points, thirds, edge):
            raise Refused("turn")
        flip_in(thirds, edge)
    return Mesh(mesh.points, triangles_of(thirds))


def flipped(mesh, edge):
    return run_flips(mesh, (edge,))


def lifts_of(mesh):
    """The field that is the lift at each point."""
    return tuple([plus(times(x, x), times(y, y)) for x, y in mesh.points])


def lift_sum(mesh):
    """Six times the volume below the lift."""
    lifts = lifts_of(mesh)
    points = mesh.points
    return total_of([times(doubled_area(points[a], points[b], points[c]), total_of((lifts[a], lifts[b], lifts[c])))
                     for a, b, c in mesh.triangles])


def _settle(mesh):
    """The edges flipped, the least one that fails each time, and the thirds behind that."""
    thirds = thirds_of(mesh.triangles)
    wrong = {edge: True for edge in _failing_in(mesh.points, thirds)}
    done = []
    while wrong:
        edge = min(list(wrong))
        del wrong[edge]
        done.append(edge)
        # The new edge passes, and of the edges around those that failed still do: their angles opposite only grow.
        for other in flip_in(thirds, edge):
            if _side(mesh.points, thirds, other) > 0:
                wrong[other] = True
    return tuple(done), thirds


def settling(mesh):
    done, _ = _settle(mesh)
    return done


def _cell_from(points, thirds, numbers, triangles, first):
    """The numbers of the triangles in the cell of one."""
    found = {first: True}
    waiting = [first]
    while waiting:
        triangle = triangles[waiting.pop()]
        for one, other in ways_round(triangle):
            beside = numbers.get((other, one))
            if beside not in found and _side(points, thirds, edge_between(one, other)) == 0:
                found[beside] = True
                waiting.append(beside)
    return list(found)


def _rings_of_cells(points, thirds):
    """The list of the cells, each as the ring of its corners, from the least one on."""
    triangles = triangles_of(thirds)
    numbers = numbers_of(triangles)
    seen = {}
    rings = []
    for first in range(len(triangles)):
        if first in seen:
            continue
        cell = _cell_from(points, thirds, numbers, triangles, first)
        for number in cell:
            seen[number] = True
        ways = {way: True for number in cell for way in ways_round(triangles[number])}
        rings.extend(rings_round([(one, other) for one, other in ways if (other, one) not in ways]))
    return rings


def cells(mesh):
    rings = _rings_of_cells(mesh.points, thirds_of(mesh.triangles))
    return tuple(sorted([tuple(sorted(ring)) for ring in rings]))


def settled(mesh):
    """The mesh in which no edge fails, each of its cells parted from its least corner."""
    _, thirds = _settle(mesh)
    triangles = []
    for ring in _rings_of_cells(mesh.points, thirds):
        for one, other in zip(ring[1:], ring[2:]):
            triangles.append((ring[0], one, other))
    return Mesh(mesh.points, tuple(sorted(triangles)))
