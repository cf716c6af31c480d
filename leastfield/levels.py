"""Where a field is high, and where it is low."""

from leastfield.fractions import compared, minus, over
from leastfield.meshes import edges_of
from leastfield.points import moved
from leastfield.reach import reached


def high_points(mesh, field, level):
    return tuple([number for number in range(len(mesh.points)) if compared(field[number], level) >= 0])


def gates(mesh, field, level):
    """The pairs of a high and a low point that an edge joins."""
    high = high_points(mesh, field, level)
    found = []
    for one, other in edges_of(mesh):
        if one in high and other not in high:
            found.append((one, other))
        elif other in high and one not in high:
            found.append((other, one))
    return tuple(sorted(found))


def gate_point(mesh, field, level, gate):
    """The point of a gate's edge with the worth of the level."""
    high, low = gate
    part = over(minus(field[high], level), minus(field[high], field[low]))
    return moved(mesh.points[high], mesh.points[low], part)


def regions(mesh, field, level):
    """The lots of points that edges join without gates."""
    high = high_points(mesh, field, level)
    near = [[] for _ in mesh.points]
    for one, other in edges_of(mesh):
        if (one in high) == (other in high):
            near[one].append(other)
            near[other].append(one)
    seen = {}
    lots = []
    for first in range(len(mesh.points)):
        if first not in seen:
            lot = reached(near, [first])
            seen.update({number: True for number in lot})
            lots.append(lot)
    return tuple(lots)
