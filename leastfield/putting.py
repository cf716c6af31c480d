"""Further points put into meshes, and places where they may be put."""

from leastfield.errors import InvalidSize, Refused
from leastfield.fractions import fraction, times, total_of
from leastfield.kinds import is_place
from leastfield.meshes import Mesh, opposites
from leastfield.places import field_at, place_of
from leastfield.points import circle_centre, foot_of, middle, on_segment, triangle_side, turn
from leastfield.thirds import edge_between, edges_in, least_first, thirds_of, ways_round


def _parted(points, triangle, point, number):
    """The triangles into which a point, of the next number, parts one that holds it."""
    return [least_first((one, other, number)) for one, other in ways_round(triangle)
            if turn(points[one], points[other], point) > 0]


def put_in(mesh, point):
    """The mesh with one more point."""
    place = place_of(mesh, point)[0]
    if place in ("corner", "outside"):
        raise Refused(place)
    points = mesh.points
    triangles = []
    for triangle in mesh.triangles:
        a, b, c = triangle
        if triangle_side(points[a], points[b], points[c], point) < 0:
            triangles.append(triangle)
        else:
            triangles.extend(_parted(points, triangle, point, len(points)))
    return Mesh(points + (point,), tuple(sorted(triangles)))


def field_put(mesh, field, point):
    """The field with one more worth, that of a point."""
    return field + (field_at(mesh, field, point),)


def quartered(mesh):
    """The mesh in which each triangle is parted in four by the middles of its edges."""
    edges = edges_in(thirds_of(mesh.triangles))
    middles = [middle(mesh.points[low], mesh.points[high]) for low, high in edges]
    numbers = {edge: len(mesh.points) + at for at, edge in enumerate(edges)}
    triangles = []
    for a, b, c in mesh.triangles:
        ab, bc, ca = [numbers[edge_between(one, other)] for one, other in ways_round((a, b, c))]
        triangles.extend([least_first(one) for one in ((a, ab, ca), (b, bc, ab), (c, ca, bc), (ab, bc, ca))])
    return Mesh(mesh.points + tuple(middles), tuple(sorted(triangles)))


def middle_of(mesh, edge):
    opposites(mesh, edge)
    return middle(mesh.points[edge[0]], mesh.points[edge[1]])


def _corners(mesh, number):
    """The corners of a triangle of a mesh, if the value is the number of one."""
    if not is_place(number, len(mesh.triangles)):
        raise InvalidSize("number")
    return [mesh.points[corner] for corner in mesh.triangles[number]]


def centre_of(mesh, number):
    """The mean of the corners of a triangle."""
    corners = _corners(mesh, number)
    third = fraction(1, 3)
    return (times(third, total_of([x for x, _ in corners])), times(third, total_of([y for _, y in corners])))


def circle_centre_of(mesh, number):
    a, b, c = _corners(mesh, number)
    return circle_centre(a, b, c)


def foot_on(mesh, edge):
    """The foot, on a border edge, of the height from the corner opposite."""
    left, right = opposites(mesh, edge)
    if left is not None and right is not None:
        raise Refused("inner")
    corner = right if left is None else left
    low, high = mesh.points[edge[0]], mesh.points[edge[1]]
    foot = foot_of(low, high, mesh.points[corner])
    if foot in (low, high) or not on_segment(low, high, foot):
        raise Refused("foot")
    return foot
