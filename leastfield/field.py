"""Fields on meshes, and the one of least energy among those with some told worths."""

from leastfield.elimination import settled_by
from leastfield.energy import energy
from leastfield.errors import InvalidField, InvalidWorths
from leastfield.fractions import ZERO, is_fraction, minus
from leastfield.networks import network_of, outflow
from leastfield.orders import sparing_order
from leastfield.pairs import firsts_of, wrong_pair


def need_worths(mesh, value):
    if not isinstance(value, tuple):
        raise InvalidWorths(-1)
    at = wrong_pair(value, len(mesh.points))
    if at is not None:
        raise InvalidWorths(at)
    if len(value) == 0:
        raise InvalidWorths(0)


def need_field(mesh, value):
    if not isinstance(value, tuple):
        raise InvalidField(-1)
    many = len(mesh.points)
    for at, thing in enumerate(value):
        if at >= many or not is_fraction(thing):
            raise InvalidField(at)
    if len(value) < many:
        raise InvalidField(len(value))


def least_field(mesh, worths):
    """The field of least energy that has the told worths."""
    network = network_of(mesh)
    # On a mesh no order of dropping is refused, and all tell the same.
    order = sparing_order(network, firsts_of(worths))
    return tuple([worth for _, worth in settled_by(network, worths, order)])


def least_energy(mesh, worths):
    """The energy of the least field."""
    return energy(mesh, least_field(mesh, worths))


def flows(mesh, field):
    """What flows out of each point."""
    network = network_of(mesh)
    worths = tuple(enumerate(field))
    return tuple([outflow(network, worths, point) for point in network[0]])


def is_told_field(mesh, worths, value):
    """Whether a value is a field with the told worths."""
    try:
        need_field(mesh, value)
    except InvalidField:
        return False
    return all([value[point] == worth for point, worth in worths])


def check_field(mesh, worths, value):
    if not is_told_field(mesh, worths, value):
        return False
    told = firsts_of(worths)
    return all([much == ZERO or point in told for point, much in enumerate(flows(mesh, value))])


def more_energy(mesh, field, other):
    return minus(energy(mesh, other), energy(mesh, field))
