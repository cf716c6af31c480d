"""Networks: points with ties of some weight between them."""

from leastfield.fractions import ZERO, half, is_fraction, minus, times, total_of
from leastfield.kinds import are_numbers, is_int, is_tuple_of
from leastfield.ties import drop_point, network_in, tie_more, ties_by_point
from leastfield.weights import weights_of


def _is_tie(points, value):
    if not is_tuple_of(value, 3):
        return False
    low, high, weight = value
    if not (is_int(low) and is_int(high) and is_fraction(weight)):
        return False
    return low < high and low in points and high in points and weight != ZERO


def is_network(value):
    if not (is_tuple_of(value, 2) and are_numbers(value[0]) and isinstance(value[1], tuple)):
        return False
    points, ties = value
    ahead = (-1, -1)
    for tie in ties:
        if not _is_tie(points, tie) or tie[:2] <= ahead:
            return False
        ahead = tie[:2]
    return True


def network_of(mesh):
    """The network of the points of a mesh and its edges with their weights."""
    return (tuple(range(len(mesh.points))), tuple([tie for tie in weights_of(mesh) if tie[2] != ZERO]))


def pairs_of(network, point):
    """The neighbours of a point with the weights of its ties, ascending."""
    ties = ties_by_point(network)[point]
    return tuple([(other, ties[other]) for other in sorted(ties)])


def pull_of(network, point):
    return total_of([weight for _, weight in pairs_of(network, point)])


def network_energy(network, worths):
    """Half the sum, over the ties, of the weight times the square of the difference."""
    table = dict(worths)
    rises = [(weight, minus(table[low], table[high])) for low, high, weight in network[1]]
    return half(total_of([times(weight, times(rise, rise)) for weight, rise in rises]))


def outflow(network, worths, point):
    """What flows out of a point over its ties."""
    table = dict(worths)
    return total_of([times(weight, minus(table[point], table[other])) for other, weight in pairs_of(network, point)])


def tied_more(network, low, high, more):
    """The network in which two points have a fraction more of weight between them."""
    table = ties_by_point(network)
    tie_more(table, low, high, more)
    return network_in(table)


def dropped(network, point):
    """The network without a point, its neighbours tied instead."""
    table = ties_by_point(network)
    drop_point(table, point)
    return network_in(table)
