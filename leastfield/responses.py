"""Least fields as sums of shares, and how told points respond to one another."""

from leastfield.elimination import means_of, put_back, reduced
from leastfield.field import flows
from leastfield.fractions import ONE, ZERO, negative, times, total_of
from leastfield.networks import network_of
from leastfield.orders import sparing_order
from leastfield.ties import ties_by_point


def sum_of_fields(parts):
    """The sum of some fields, each multiplied by its fraction."""
    rows = [[times(often, worth) for worth in field] for often, field in parts]
    return tuple([total_of(column) for column in zip(*rows)])


def _share_of(means, told, one):
    """The field that is 1 at one told point and 0 at the others, from the means of the free points."""
    worths = [(point, ONE if point == one else ZERO) for point in told]
    return tuple([worth for _, worth in put_back(means, worths)])


def share_fields(mesh, told):
    """For each told point the least field that is 1 there and 0 at the others."""
    network = network_of(mesh)
    # On a mesh no order of dropping is refused, and all tell the same.
    means = means_of(network, sparing_order(network, told))
    return tuple([_share_of(means, told, one) for one in told])


def response(mesh, told):
    """For each told point what flows out of all told points by its share."""
    rows = [flows(mesh, share) for share in share_fields(mesh, told)]
    return tuple([tuple([row[point] for point in told]) for row in rows])


def _response_at(ties, one, point):
    """What flows out of a point if one point has the worth 1 and all others 0."""
    if point == one:
        return total_of(list(ties[one].values()))
    return negative(ties[one].get(point, ZERO))


def response_of_network(network):
    """For each point what flows out of all points if it has the worth 1 and all others 0."""
    ties = ties_by_point(network)
    return tuple([tuple([_response_at(ties, one, point) for point in network[0]]) for one in network[0]])


def reduced_response(mesh, told):
    return response_of_network(reduced(network_of(mesh), told))
