"""Networks as dicts, point by point, while points are dropped from them."""

from leastfield.errors import Refused
from leastfield.fractions import ZERO, over, plus, times, total_of


def ties_by_point(network):
    """The dict from each point to the dict from its neighbours to the weights."""
    points, ties = network
    table = {point: {} for point in points}
    for low, high, weight in ties:
        table[low][high] = weight
        table[high][low] = weight
    return table


def network_in(table):
    """The network that such a dict holds."""
    ties = [(low, high, table[low][high]) for low in sorted(table) for high in sorted(table[low]) if low < high]
    return (tuple(sorted(table)), tuple(ties))


def tie_more(table, one, other, more):
    """Gives two points a fraction more of weight; what is 0 then is no tie."""
    weight = plus(table[one].get(other, ZERO), more)
    if weight == ZERO:
        table[one].pop(other, None)
        table[other].pop(one, None)
    else:
        table[one][other] = weight
        table[other][one] = weight


def drop_point(table, point):
    """Takes a point out, and ties its neighbours instead; the pairs of them and their shares, ascending."""
    pairs = [(other, table[point][other]) for other in sorted(table[point])]
    pull = total_of([weight for _, weight in pairs])
    if pull[0] <= 0:
        raise Refused("pull")
    del table[point]
    shares = []
    for at, (other, weight) in enumerate(pairs):
        del table[other][point]
        share = over(weight, pull)
        shares.append((other, share))
        for one, much in pairs[:at]:
            tie_more(table, one, other, times(much, share))
    return tuple(shares)
