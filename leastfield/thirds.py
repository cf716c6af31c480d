"""Triangles told by their sides: which corner lies on the left of the way along an edge."""

from leastfield.kinds import are_ints


def ways_round(triangle):
    """The edges of a triangle in their directions."""
    a, b, c = triangle
    return ((a, b), (b, c), (c, a))


def edge_between(one, other):
    return (min(one, other), max(one, other))


def least_first(triangle):
    """The same triangle, its least number first."""
    a, b, c = triangle
    return min([(a, b, c), (b, c, a), (c, a, b)])


def thirds_of(triangles):
    """The dict from each directed edge of a triangle to its third corner."""
    thirds = {}
    for triangle in triangles:
        add_triangle(thirds, triangle)
    return thirds


def add_triangle(thirds, triangle):
    a, b, c = triangle
    thirds[(a, b)] = c
    thirds[(b, c)] = a
    thirds[(c, a)] = b


def triangles_of(thirds):
    """All triangles, each with its least number first, ascending."""
    return tuple(sorted([(a, b, c) for (a, b), c in thirds.items() if a < b and a < c]))


def numbers_of(triangles):
    """The dict from each directed edge to the number of its triangle."""
    return {way: number for number, triangle in enumerate(triangles) for way in ways_round(triangle)}


def is_edge_of(thirds, value):
    """Whether a value is an edge, told from its lesser end to its greater one."""
    return are_ints(value, 2) and value[0] < value[1] and (value in thirds or (value[1], value[0]) in thirds)


def corners_beside(thirds, edge):
    """The third corners on the left and on the right of an edge, None where there is none."""
    return thirds.get(edge), thirds.get((edge[1], edge[0]))


def edges_in(thirds):
    """The ascending list of the edges."""
    return sorted({edge_between(one, other) for one, other in thirds})


def is_inner(thirds, edge):
    return edge in thirds and (edge[1], edge[0]) in thirds


def flip_in(thirds, edge):
    """Flips an inner edge within the thirds; the list of the four edges around it."""
    low, high = edge
    left, right = thirds.pop((low, high)), thirds.pop((high, low))
    add_triangle(thirds, (left, right, high))
    add_triangle(thirds, (right, left, low))
    return [edge_between(one, other) for one in (left, right) for other in (low, high)]


def rings_round(ways):
    """The rings that directed edges make, ascending, each from its least number on.

    None if two of them begin at one number. As many of them end at a number as begin there.
    """
    ahead = {}
    for one, other in ways:
        if one in ahead:
            return None
        ahead[one] = other
    rings = []
    while ahead:
        ring = [min(list(ahead))]
        while ring[-1] in ahead:
            ring.append(ahead.pop(ring[-1]))
        rings.append(tuple(ring[:-1]))
    return rings


def border_ways(thirds):
    """The directed edges that no triangle has in the other direction."""
    return [(one, other) for one, other in thirds if (other, one) not in thirds]
