"""Points of networks dropped one by one, and the worths of least energy found so."""

from leastfield.fractions import times, total_of
from leastfield.ties import drop_point, network_in, ties_by_point


def means_of(network, order):
    """For each point of an order, when it is dropped: its neighbours then, and their shares in its mean."""
    table = ties_by_point(network)
    means = []
    for point in order:
        means.append((point, drop_point(table, point)))
    return tuple(means)


def _others(network, some):
    """The points of a network that are none of some, ascending."""
    return [point for point in network[0] if point not in some]


def reduced(network, stay):
    """The network of some points alone, the others dropped, the least one first."""
    table = ties_by_point(network)
    for point in _others(network, stay):
        drop_point(table, point)
    return network_in(table)


def put_back(means, told):
    """The worths of all points, where those that were dropped are put back, the last one first."""
    worths = dict(told)
    for point, shares in reversed(means):
        worths[point] = total_of([times(share, worths[other]) for other, share in shares])
    return tuple([(point, worths[point]) for point in sorted(worths)])


def settled_by(network, told, order):
    """The worths of least energy with some told, found by dropping the other points in an order."""
    return put_back(means_of(network, order), told)


def settled_worths(network, told):
    return settled_by(network, told, _others(network, [point for point, _ in told]))
