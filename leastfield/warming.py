"""Fields that warm and cool in steps of time."""

from leastfield.elimination import settled_by
from leastfield.energy import unit_field
from leastfield.errors import InvalidSize
from leastfield.field import flows, is_told_field
from leastfield.fractions import ZERO, is_positive, minus, over, plus, times
from leastfield.lumps import lumps
from leastfield.networks import network_of
from leastfield.orders import sparing_order
from leastfield.pairs import firsts_of


def need_time(value):
    if not is_positive(value):
        raise InvalidSize("time")


def with_told(field, worths):
    """The field with the told worths at the told points."""
    table = dict(worths)
    return tuple([table.get(number, worth) for number, worth in enumerate(field)])


def memory_network(mesh, worths, field, time):
    """The network of a mesh in which each free point is tied to its worth ahead of a step, and what is told there."""
    points, ties = network_of(mesh)
    many = len(points)
    borne = lumps(mesh)
    told = firsts_of(worths)
    free = [number for number in points if number not in told]
    memories = tuple([(number, many + number, over(borne[number], time)) for number in free])
    network = (points + tuple([many + number for number in free]), tuple(sorted(ties + memories)))
    return (network, worths + tuple([(many + number, field[number]) for number in free]))


def step(mesh, worths, field, time):
    """The field behind a step of time."""
    need_time(time)
    network, told = memory_network(mesh, worths, field, time)
    # No order of dropping is refused here, and all tell the same.
    settled = settled_by(network, told, sparing_order(network, firsts_of(told)))
    return tuple([worth for _, worth in settled[:len(mesh.points)]])


def steps(mesh, worths, field, some):
    """The field with the told worths, and the fields behind each step of some times."""
    fields = [with_told(field, worths)]
    for time in some:
        fields.append(step(mesh, worths, fields[-1], time))
    return tuple(fields)


def check_step(mesh, worths, field, time, value):
    if not is_told_field(mesh, worths, value):
        return False
    told = firsts_of(worths)
    out = flows(mesh, value)
    gained = [times(over(lump, time), minus(worth, before)) for lump, worth, before in zip(lumps(mesh), value, field)]
    return all([number in told or plus(gained[number], out[number]) == ZERO for number in range(len(mesh.points))])


def spread(mesh, told, time):
    """For each point the field behind a step from 1 there and 0 elsewhere."""
    worths = tuple([(point, ZERO) for point in told])
    return tuple([step(mesh, worths, unit_field(mesh, number), time) for number in range(len(mesh.points))])
