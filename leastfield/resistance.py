"""Resistances between points of a mesh."""

from leastfield.field import least_field
from leastfield.fractions import ONE, ZERO, minus, over, plus
from leastfield.streams import cut_flow


def _driven(mesh, source, drain):
    """The least field that is 1 at the source and 0 at the drain."""
    told = [(point, ONE) for point in source] + [(point, ZERO) for point in drain]
    return least_field(mesh, tuple(sorted(told)))


def conductance(mesh, source, drain):
    """What flows out of the source where it is told 1 and the drain 0."""
    return cut_flow(mesh, _driven(mesh, source, drain), source)


def resistance(mesh, one, other):
    if one == other:
        return ZERO
    return over(ONE, conductance(mesh, (one,), (other,)))


def potential(mesh, one, other):
    """The field that is 0 at the other point and drives 1 from the one to it."""
    field = _driven(mesh, (one,), (other,))
    much = cut_flow(mesh, field, (one,))
    return tuple([over(worth, much) for worth in field])


def _between(fields, one, other):
    """The resistance of two points, from the potentials of all points with one drain.

    What two of them differ by drives 1 from the one source to the other.
    """
    return minus(plus(fields[one][one], fields[other][other]), plus(fields[one][other], fields[other][one]))


def resistances(mesh):
    """The resistances of all pairs of points, from what is driven from each point to the first one alone."""
    many = len(mesh.points)
    fields = [tuple([ZERO for _ in mesh.points])] + [potential(mesh, number, 0) for number in range(1, many)]
    return tuple([tuple([_between(fields, one, other) for other in range(many)]) for one in range(many)])
