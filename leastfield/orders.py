"""The order in which points are best dropped from a network."""

from leastfield.ties import ties_by_point


def sparing_order(network, told):
    """The points that are not told, each time the one with the fewest neighbours: so few ties come on the way."""
    near = {point: {other: True for other in ties} for point, ties in ties_by_point(network).items()}
    free = [point for point in network[0] if point not in told]
    order = []
    while free:
        best = min(free, key=lambda one: (len(near[one]), one))
        free.remove(best)
        order.append(best)
        ring = list(near.pop(best))
        for neighbour in ring:
            del near[neighbour][best]
            near[neighbour].update({further: True for further in ring if further != neighbour})
    return tuple(order)
