"""What bounds the worths of the least field, and its energy from below."""

from leastfield.energy import energy
from leastfield.errors import Refused
from leastfield.field import is_told_field, least_field
from leastfield.fractions import ZERO, greatest_of, half, is_fraction, least_of, minus, negative, over, times, total_of
from leastfield.kinds import is_tuple_of
from leastfield.networks import network_of
from leastfield.pairs import firsts_of
from leastfield.weights import weights_of


def is_calm(mesh, worths):
    """Whether no edge with a free end has a weight below 0."""
    told = firsts_of(worths)
    return all([weight[0] >= 0 or (low in told and high in told) for low, high, weight in weights_of(mesh)])


def span_of(worths):
    """The least and the greatest told worth."""
    some = [worth for _, worth in worths]
    return (least_of(some), greatest_of(some))


def is_strict(network):
    return all([weight[0] > 0 for _, _, weight in network[1]])


def _need_strict(network):
    if not is_strict(network):
        raise Refused("weight")


def stream_of(network, worths):
    """What the worths drive through each tie, from its low to its high end."""
    table = dict(worths)
    return tuple([times(weight, minus(table[low], table[high])) for low, high, weight in network[1]])


def sources_of(network, stream):
    """For each point how much more a stream takes out than in."""
    out = {point: [] for point in network[0]}
    for (low, high, _), much in zip(network[1], stream):
        out[low].append(much)
        out[high].append(negative(much))
    return tuple([(point, total_of(out[point])) for point in network[0]])


def is_stream(network, told, value):
    if not is_tuple_of(value, len(network[1])) or not all([is_fraction(thing) for thing in value]):
        return False
    points = firsts_of(told)
    return all([much == ZERO or point in points for point, much in sources_of(network, value)])


def stream_floor(network, told, stream):
    """The energy that no worths with the told ones are below, as a stream shows it."""
    _need_strict(network)
    sources = dict(sources_of(network, stream))
    gained = total_of([times(worth, sources[point]) for point, worth in told])
    lost = total_of([over(times(much, much), weight) for (_, _, weight), much in zip(network[1], stream)])
    return minus(gained, half(lost))


def least_paper(mesh, worths):
    """The least field and its stream."""
    network = network_of(mesh)
    _need_strict(network)
    field = least_field(mesh, worths)
    return (field, stream_of(network, tuple(enumerate(field))))


def check_least_paper(mesh, worths, value):
    network = network_of(mesh)
    if not is_strict(network) or not is_tuple_of(value, 2):
        return False
    field, stream = value
    if not (is_told_field(mesh, worths, field) and is_stream(network, worths, stream)):
        return False
    return stream_floor(network, worths, stream) == energy(mesh, field)
