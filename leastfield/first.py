"""Partings of plates by diagonals, and the first meshes that they give."""

from leastfield.diagonals import diagonals_cross, diagonals_of, is_diagonal
from leastfield.meshes import Mesh
from leastfield.plates import corners_of, sides_of
from leastfield.points import point_at, whole_turn
from leastfield.rings import triangle_holds


def many_diagonals(plate):
    return len(corners_of(plate)) + 3 * len(plate.holes) - 3


def many_triangles(plate):
    return len(corners_of(plate)) + 2 * len(plate.holes) - 2


def _crosses_none(plate, pair, some):
    return not any([diagonals_cross(plate, pair, other) for other in some])


def is_parting(plate, value):
    if not isinstance(value, tuple):
        return False
    for at, pair in enumerate(value):
        if not is_diagonal(plate, pair) or (at > 0 and pair <= value[at - 1]):
            return False
        if not _crosses_none(plate, pair, value[:at]):
            return False
    return True


def completed(plate, parting):
    """A parting with each further diagonal, ascending, that crosses none in it."""
    taken = list(parting)
    for pair in diagonals_of(plate):
        if pair not in taken and _crosses_none(plate, pair, taken):
            taken.append(pair)
    return tuple(sorted(taken))


def all_partings(plate):
    """All full partings, ascending."""
    partings = [()]
    for pair in diagonals_of(plate):
        partings = partings + [some + (pair,) for some in partings if _crosses_none(plate, pair, some)]
    # All full ones have as many members, and no others have so many.
    many = many_diagonals(plate)
    return tuple(sorted([some for some in partings if len(some) == many]))


def _is_empty(corners, a, b, c):
    """Whether three corners are turned left, and no other corner lies in their triangle or on its border."""
    p, q, r = corners[a], corners[b], corners[c]
    if whole_turn(p, q, r) <= 0:
        return False
    return not any([triangle_holds(p, q, r, corner) for corner in corners if corner not in (p, q, r)])


def mesh_of_parting(plate, parting):
    """The mesh of the triangles into which a full parting parts a plate."""
    corners = corners_of(plate)
    behind = [[] for _ in corners]
    for one, other in sides_of(plate) + parting:
        behind[one].append(other)
    for one, other in parting:
        behind[other].append(one)
    # Ways along sides have the plate on their left, so only triangles of the plate go round along them.
    triangles = [(a, b, c) for a in range(len(corners)) for b in behind[a] for c in behind[b]
                 if a < min(b, c) and a in behind[c] and _is_empty(corners, a, b, c)]
    return Mesh(tuple([point_at(x, y) for x, y in corners]), tuple(sorted(triangles)))


def first_mesh(plate):
    return mesh_of_parting(plate, completed(plate, ()))
