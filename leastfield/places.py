"""Where a point lies in a mesh, papers that show it, and the worth of a field there."""

from leastfield.errors import Refused
from leastfield.fractions import is_fraction, times, total_of
from leastfield.kinds import is_place, is_tuple_of
from leastfield.points import parts_of, turn
from leastfield.thirds import edge_between, ways_round


def _turns(mesh, triangle, point):
    """The turns from the three edges of a triangle to a point."""
    return [turn(mesh.points[one], mesh.points[other], point) for one, other in ways_round(triangle)]


def _holder(mesh, point):
    """The least number of a triangle that holds a point, None if none does."""
    for number, triangle in enumerate(mesh.triangles):
        if min(_turns(mesh, triangle, point)) >= 0:
            return number
    return None


def _parts(mesh, number, point):
    a, b, c = mesh.triangles[number]
    return parts_of(mesh.points[a], mesh.points[b], mesh.points[c], point)


def place_of(mesh, point):
    """The corner, the edge or the triangle in which a point lies, or that it is outside."""
    if point in mesh.points:
        return ("corner", mesh.points.index(point))
    number = _holder(mesh, point)
    if number is None:
        return ("outside",)
    triangle = mesh.triangles[number]
    for (one, other), side in zip(ways_round(triangle), _turns(mesh, triangle, point)):
        if side == 0:
            return ("edge", edge_between(one, other))
    return ("triangle", number)


def place_paper(mesh, point):
    """The first triangle that holds a point, and the point's parts there; None if none holds it."""
    number = _holder(mesh, point)
    if number is None:
        return None
    return (number, _parts(mesh, number, point))


def outside_paper(mesh, point):
    """For each triangle the first of its edges that has a point on its right; None if some triangle holds it."""
    found = []
    for triangle in mesh.triangles:
        turns = _turns(mesh, triangle, point)
        if -1 not in turns:
            return None
        found.append(turns.index(-1))
    return tuple(found)


def check_place(mesh, point, value):
    if not is_tuple_of(value, 2):
        return False
    number, parts = value
    if not is_place(number, len(mesh.triangles)):
        return False
    if min(_turns(mesh, mesh.triangles[number], point)) < 0:
        return False
    # The kinds are looked at, too, for Python takes True to be 1.
    return (is_tuple_of(parts, 3) and all([is_fraction(part) for part in parts])
            and parts == _parts(mesh, number, point))


def check_outside(mesh, point, value):
    if not is_tuple_of(value, len(mesh.triangles)):
        return False
    return all([is_place(at, 3) and _turns(mesh, triangle, point)[at] < 0
                for at, triangle in zip(value, mesh.triangles)])


def field_at(mesh, field, point):
    """The worth of a field at a point."""
    number = _holder(mesh, point)
    if number is None:
        raise Refused("outside")
    parts = _parts(mesh, number, point)
    return total_of([times(part, field[corner]) for part, corner in zip(parts, mesh.triangles[number])])
