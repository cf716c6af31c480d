"""Feet of heights put on border edges, until a mesh is calm."""

from leastfield.errors import InvalidSize, Refused
from leastfield.flips import settled
from leastfield.kinds import is_place
from leastfield.meshes import borders_of
from leastfield.pairs import firsts_of
from leastfield.plates import corners_of, sides_of
from leastfield.putting import foot_on, put_in
from leastfield.weights import heavy_borders

_MOST = 40


def is_upright(plate):
    """Whether each side of a plate runs along one of the axes."""
    corners = corners_of(plate)
    sides = [(corners[one], corners[other]) for one, other in sides_of(plate)]
    return all([a[0] == b[0] or a[1] == b[1] for a, b in sides])


def wild_edges(mesh, worths):
    """The border edges with a free end and a weight below 0."""
    told = firsts_of(worths)
    return tuple([(low, high) for low, high in heavy_borders(mesh) if low not in told or high not in told])


def calmed(mesh, worths, most):
    """The settled mesh with feet on wild edges, until there is none."""
    if not is_place(most, _MOST + 1):
        raise InvalidSize("most")
    mesh = settled(mesh)
    feet = 0
    wild = wild_edges(mesh, worths)
    while wild:
        if feet == most:
            raise Refused("most")
        mesh = settled(put_in(mesh, foot_on(mesh, wild[0])))
        feet += 1
        wild = wild_edges(mesh, worths)
    return (mesh, worths)


def feet_bound(mesh):
    """How many feet there are at most on upright plates: each on a side, in a row or a column of points."""
    sides = [(mesh.points[low], mesh.points[high]) for low, high in borders_of(mesh)]
    columns = len({x for x, _ in mesh.points})
    rows = len({y for _, y in mesh.points})
    lying = len({a[1] for a, b in sides if a[1] == b[1]})
    standing = len({a[0] for a, b in sides if a[0] == b[0]})
    return columns * lying + rows * standing
