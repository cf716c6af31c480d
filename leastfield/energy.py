"""The energy of fields on meshes."""

from leastfield.fractions import ONE, ZERO, half, minus, times, total_of
from leastfield.slopes import triangle_energy
from leastfield.weights import weights_of


def mixed_energy(mesh, field, other):
    """The sum, over all edges, of the weight times the rises of both fields."""
    return total_of([times(weight, times(minus(field[low], field[high]), minus(other[low], other[high])))
                     for low, high, weight in weights_of(mesh)])


def energy(mesh, field):
    return half(mixed_energy(mesh, field, field))


def energy_by_triangles(mesh, field):
    return total_of([triangle_energy(mesh, number, field) for number in range(len(mesh.triangles))])


def unit_field(mesh, point):
    """The field that is 1 at the point of a number and 0 elsewhere."""
    return tuple([ONE if number == point else ZERO for number in range(len(mesh.points))])
