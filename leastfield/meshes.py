"""Meshes: points, and triangles of them that fill a plate."""

from leastfield.errors import FieldError, InvalidMesh, InvalidPoint, InvalidSize, Refused
from leastfield.fractions import total_of
from leastfield.kinds import are_ints
from leastfield.plates import corners_of, one_form, plate_of_rings, ring_area
from leastfield.points import dot, doubled_area, is_point, point_at, turn
from leastfield.thirds import (border_ways, corners_beside, edges_in, is_edge_of, is_inner, least_first, numbers_of,
                               rings_round, thirds_of, ways_round)


class Mesh:
    """Points and triangles, unchecked."""

    def __init__(self, points, triangles):
        self.points = points
        self.triangles = triangles

    def __eq__(self, other):
        return isinstance(other, Mesh) and self.points == other.points and self.triangles == other.triangles


def mesh_of(points, triples):
    """The mesh of some points and triples of their numbers, put in order."""
    triangles = []
    for a, b, c in triples:
        if turn(points[a], points[b], points[c]) < 0:
            b, c = c, b
        triangles.append(least_first((a, b, c)))
    return Mesh(tuple(points), tuple(sorted(triangles)))


def _need_points(points):
    ahead = {}
    for at, thing in enumerate(points):
        if not is_point(thing) or thing in ahead:
            raise InvalidPoint(at)
        ahead[thing] = True


def _is_triangle(points, value):
    """Whether a value is a triangle of some points."""
    if not are_ints(value, 3):
        return False
    a, b, c = value
    if not (0 <= a < min(b, c) and max(b, c) < len(points)):
        return False
    return turn(points[a], points[b], points[c]) > 0


def _need_triangles(points, triangles):
    ahead = {}
    for at, thing in enumerate(triangles):
        if not _is_triangle(points, thing) or (at > 0 and thing <= triangles[at - 1]):
            raise InvalidMesh(at)
        for way in ways_round(thing):
            if way in ahead:
                raise InvalidMesh(at)
            ahead[way] = True


def _straight_ring(points, ring):
    """A ring of numbers as corners, without straight ones; empty if there is none such."""
    corners = []
    for at, number in enumerate(ring):
        before, here, behind = points[ring[at - 1]], points[number], points[ring[(at + 1) % len(ring)]]
        if turn(before, here, behind) == 0:
            if dot(here, before, behind)[0] > 0:
                return ()
        elif here[0][1] == 1 and here[1][1] == 1:
            corners.append((here[0][0], here[1][0]))
        else:
            return ()
    return tuple(corners)


def _filled(points, triangles):
    """The plate in one form that right triangles fill, None if there is none.

    It is enough that each point is in use and that the edges without a triangle on their right are the sides.
    """
    used = {number: True for triangle in triangles for number in triangle}
    rings = rings_round(border_ways(thirds_of(triangles)))
    if len(used) < len(points) or rings is None:
        return None
    return plate_of_rings([_straight_ring(points, ring) for ring in rings])


def need_mesh(value):
    if not (isinstance(value, Mesh) and isinstance(value.points, tuple) and isinstance(value.triangles, tuple)):
        raise InvalidMesh(-1)
    _need_points(value.points)
    _need_triangles(value.points, value.triangles)
    if _filled(value.points, value.triangles) is None:
        raise InvalidMesh(len(value.triangles))


def is_mesh(value):
    try:
        need_mesh(value)
    except FieldError:
        return False
    return True


def plate_of(mesh):
    return _filled(mesh.points, mesh.triangles)


def fills(plate, mesh):
    """Whether a value is a mesh that fills a plate, all of whose corners are points."""
    if not is_mesh(mesh):
        return False
    if any([point_at(x, y) not in mesh.points for x, y in corners_of(plate)]):
        return False
    return plate_of(mesh) == one_form(plate)


def edges_of(mesh):
    return tuple(edges_in(thirds_of(mesh.triangles)))


def inner_edges(mesh):
    thirds = thirds_of(mesh.triangles)
    return tuple([edge for edge in edges_in(thirds) if is_inner(thirds, edge)])


def borders_of(mesh):
    thirds = thirds_of(mesh.triangles)
    return tuple([edge for edge in edges_in(thirds) if not is_inner(thirds, edge)])


def triangle_at(mesh, one, other):
    """The number of the triangle on the left of the way from one point to another, None if there is none."""
    return numbers_of(mesh.triangles).get((one, other))


def opposites(mesh, edge):
    thirds = thirds_of(mesh.triangles)
    if not is_edge_of(thirds, edge):
        raise InvalidSize("edge")
    return corners_beside(thirds, edge)


def border_rings(mesh):
    """The rings of numbers along the border, the outer one first, the others ascending."""
    rings = rings_round(border_ways(thirds_of(mesh.triangles)))
    return tuple(sorted(rings, key=lambda ring: (ring_area(_straight_ring(mesh.points, ring)) < 0, ring)))


def need_no_holes(mesh):
    if len(border_rings(mesh)) > 1:
        raise Refused("holes")


def counts(mesh):
    """How many points, edges, border edges, triangles and holes there are."""
    return (len(mesh.points), len(edges_of(mesh)), len(borders_of(mesh)), len(mesh.triangles),
            len(border_rings(mesh)) - 1)


def mesh_area(mesh):
    """Twice the sum of the areas of the triangles."""
    points = mesh.points
    return total_of([doubled_area(points[a], points[b], points[c]) for a, b, c in mesh.triangles])


def renumbered(mesh, order):
    """The mesh in which the point order[k] has the number k."""
    many = len(mesh.points)
    if not are_ints(order, many) or sorted(order) != list(range(many)):
        raise InvalidSize("order")
    places = {number: place for place, number in enumerate(order)}
    triangles = [least_first((places[a], places[b], places[c])) for a, b, c in mesh.triangles]
    return Mesh(tuple([mesh.points[number] for number in order]), tuple(sorted(triangles)))


def by_points(mesh):
    """The mesh with its points ascending as tuples."""
    return renumbered(mesh, tuple(sorted(range(len(mesh.points)), key=lambda number: mesh.points[number])))
