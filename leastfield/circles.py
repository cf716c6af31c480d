"""The circles of triangles, the corners that triangles see, and papers of the circle test."""

from leastfield.flips import failing
from leastfield.fractions import negative, over
from leastfield.grid import on_grid
from leastfield.kinds import are_ints, is_int, is_tuple_of
from leastfield.meshes import inner_edges, opposites
from leastfield.points import circle_number, doubled_area, whole_turn
from leastfield.thirds import numbers_of, thirds_of, ways_round


def power(mesh, number, point):
    """The squared distance of a point from the centre of a triangle's circle, less the squared radius."""
    a, b, c = [mesh.points[corner] for corner in mesh.triangles[number]]
    return negative(over(circle_number(a, b, c, point), doubled_area(a, b, c)))


def _sights_beyond(spots, third, corner, sight):
    """What is seen beyond an edge over the two other edges of the triangle there.

    A sight is an edge, its right end first, with the points between which rays from the corner come to it.
    """
    one, other, right, left = sight
    at, apex = spots[corner], spots[third]
    found = []
    if whole_turn(at, spots[right], apex) > 0:
        end = left if whole_turn(at, spots[left], apex) >= 0 else third
        found.append((one, third, right, end))
    if whole_turn(at, spots[left], apex) < 0:
        end = right if whole_turn(at, spots[right], apex) <= 0 else third
        found.append((third, other, end, left))
    return found


def seen_from(mesh, corner):
    """The numbers of the triangles that see a corner.

    Rays from the corner go on over inner edges; where some meet no end of an edge, they show a triangle.
    """
    _, spots = on_grid(mesh.points)
    thirds = thirds_of(mesh.triangles)
    numbers = numbers_of(mesh.triangles)
    ways = [way for triangle in mesh.triangles for way in ways_round(triangle) if thirds[way] == corner]
    seen = {numbers[way]: True for way in ways}
    waiting = [(one, other, one, other) for one, other in ways]
    while waiting:
        sight = waiting.pop()
        beyond = (sight[1], sight[0])
        if beyond in thirds:
            seen[numbers[beyond]] = True
            waiting.extend(_sights_beyond(spots, thirds[beyond], corner, sight))
    return tuple(sorted(seen))


def held(mesh):
    """The pairs of a triangle and a corner that it sees strictly within its circle."""
    return tuple(sorted([(number, corner) for corner, point in enumerate(mesh.points)
                         for number in seen_from(mesh, corner) if power(mesh, number, point)[0] < 0]))


def clear_circles(mesh):
    return len(held(mesh)) == 0


def _corners_opposite(mesh, edge):
    """The corners opposite to an inner edge, the lesser one first."""
    left, right = opposites(mesh, edge)
    return min(left, right), max(left, right)


def clear_paper(mesh):
    """Each inner edge with the corners opposite, if all edges pass."""
    if failing(mesh):
        return None
    return tuple([(edge,) + _corners_opposite(mesh, edge) for edge in inner_edges(mesh)])


def torn_paper(mesh):
    """An inner edge that fails and a corner opposite, None if all pass."""
    wrong = failing(mesh)
    if not wrong:
        return None
    return (wrong[0], _corners_opposite(mesh, wrong[0])[0])


def _is_clear_row(value):
    return is_tuple_of(value, 3) and are_ints(value[0], 2) and are_ints(value[1:], 2)


def check_clear(mesh, value):
    # The kinds are looked at, too, for Python takes True to be 1.
    return isinstance(value, tuple) and all([_is_clear_row(row) for row in value]) and value == clear_paper(mesh)


def check_torn(mesh, value):
    if not (is_tuple_of(value, 2) and are_ints(value[0], 2) and is_int(value[1])):
        return False
    edge, corner = value
    return edge in failing(mesh) and corner in _corners_opposite(mesh, edge)
