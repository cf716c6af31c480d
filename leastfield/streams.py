"""What flows along the edges of a mesh, and the stream worths of its triangles."""

from leastfield.errors import Refused
from leastfield.fractions import ZERO, half, is_fraction, minus, negative, plus, times, total_of
from leastfield.kinds import is_tuple_of
from leastfield.thirds import border_ways, numbers_of, thirds_of
from leastfield.weights import weights_of


def edge_flows(mesh, field):
    """What flows along each edge, from low to high."""
    return tuple([(low, high, times(weight, minus(field[low], field[high])))
                  for low, high, weight in weights_of(mesh)])


def cut_flow(mesh, field, some):
    """What flows out of a lot of points."""
    parts = []
    for low, high, much in edge_flows(mesh, field):
        if low in some and high not in some:
            parts.append(much)
        elif high in some and low not in some:
            parts.append(negative(much))
    return total_of(parts)


def _rises(mesh, field):
    """The tuples of the numbers of both triangles at an inner edge, left and right, and what flows along it."""
    numbers = numbers_of(mesh.triangles)
    return [(numbers[(low, high)], numbers[(high, low)], much) for low, high, much in edge_flows(mesh, field)
            if (low, high) in numbers and (high, low) in numbers]


def check_stream_worths(mesh, field, value):
    if not is_tuple_of(value, len(mesh.triangles)) or not all([is_fraction(thing) for thing in value]):
        return False
    if value[0] != ZERO:
        return False
    return all([minus(value[left], value[right]) == much for left, right, much in _rises(mesh, field)])


def stream_worths(mesh, field):
    """The worths of the triangles whose difference is what flows between them."""
    beside = [[] for _ in mesh.triangles]
    for left, right, much in _rises(mesh, field):
        beside[right].append((left, much))
        beside[left].append((right, negative(much)))
    found = {0: ZERO}
    waiting = [0]
    while waiting:
        number = waiting.pop()
        for other, rise in beside[number]:
            worth = plus(found[number], rise)
            if other not in found:
                found[other] = worth
                waiting.append(other)
            elif found[other] != worth:
                raise Refused("flow")
    return tuple([found[number] for number in range(len(mesh.triangles))])


def swirl(mesh, field, other):
    """How much two fields turn round one another, triangle by triangle."""
    parts = []
    for a, b, c in mesh.triangles:
        parts.append(times(minus(field[b], field[a]), minus(other[c], other[a])))
        parts.append(times(minus(field[a], field[c]), minus(other[b], other[a])))
    return half(total_of(parts))


def round_sum(mesh, field, other):
    """The same from worths along the border alone."""
    ways = border_ways(thirds_of(mesh.triangles))
    return half(total_of([times(plus(field[p], field[q]), minus(other[q], other[p])) for p, q in ways]))
