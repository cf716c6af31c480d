"""How flips change the energy of fields."""

from leastfield.energy import energy
from leastfield.flips import bulge, flipped
from leastfield.fractions import fraction, minus, negative, over, plus, times
from leastfield.meshes import opposites
from leastfield.points import doubled_area


def _around(mesh, edge):
    """The ends of an edge that can be flipped, low and high, and the corners opposite, left and right."""
    flipped(mesh, edge)
    return edge + opposites(mesh, edge)


def _areas(mesh, around):
    """The doubled areas of the triangles that each of the four corners and the other diagonal make."""
    p, q, r, s = [mesh.points[number] for number in around]
    return doubled_area(p, s, r), doubled_area(q, r, s), doubled_area(p, q, r), doubled_area(q, p, s)


def jump(mesh, field, edge):
    """How far the four worths around an edge are from lying in one plane."""
    around = _around(mesh, edge)
    first, second, third, fourth = _areas(mesh, around)
    low, high, left, right = [field[number] for number in around]
    ends = plus(times(second, low), times(first, high))
    return minus(ends, plus(times(fourth, left), times(third, right)))


def energy_change(mesh, field, edge):
    """The energy behind the flip of an edge less that ahead of it."""
    much = jump(mesh, field, edge)
    product = fraction(4, 1)
    for area in _areas(mesh, _around(mesh, edge)):
        product = times(product, area)
    return over(times(negative(bulge(mesh, edge)), times(much, much)), product)


def energies_along(mesh, field, edges):
    """The energy of a field, and that behind each of some flips."""
    found = [energy(mesh, field)]
    for edge in edges:
        found.append(plus(found[-1], energy_change(mesh, field, edge)))
        mesh = flipped(mesh, edge)
    return tuple(found)
