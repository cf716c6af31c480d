"""Bridges between the rings of a plate, and the walk round a plate that is cut open along them."""

from leastfield.diagonals import diagonals_cross, diagonals_of
from leastfield.plates import corners_of, rings_of, sides_of
from leastfield.points import whole_area, whole_turn


def _next_bridge(plate, diagonals, reached, taken):
    """The least diagonal from a corner that is reached to one that is not, and over none of those taken."""
    for pair in diagonals:
        if (pair[0] in reached) != (pair[1] in reached):
            if not any([diagonals_cross(plate, pair, other) for other in taken]):
                return pair
    return None


def bridges_of(plate):
    diagonals = diagonals_of(plate)
    rings = rings_of(plate)
    reached = list(rings[0])
    taken = []
    while len(taken) < len(plate.holes):
        pair = _next_bridge(plate, diagonals, reached, taken)
        taken.append(pair)
        for ring in rings[1:]:
            if ring[0] not in reached and (pair[0] in ring or pair[1] in ring):
                reached.extend(ring)
    return tuple(sorted(taken))


def _comes_first(a, back, p, q):
    """Whether, turning right at a from the way back, one comes to the way to p before that to q."""
    # 1 for less than half round to the right, 2 for half round, 3 for more.
    near, far = 2 + whole_turn(a, back, p), 2 + whole_turn(a, back, q)
    return near < far or (near == far and whole_turn(a, p, q) < 0)


def _next_right(corners, at, back, some):
    """The corner, of some, to which one comes first, turning right from the way back."""
    best = some[0]
    for other in some[1:]:
        if _comes_first(corners[at], corners[back], corners[other], corners[best]):
            best = other
    return best


def walk_along(plate, bridges):
    """The corners that are met once round a plate that is cut open along some bridges."""
    corners = corners_of(plate)
    ways = [[] for _ in corners]
    for one, other in sides_of(plate):
        ways[one].append(other)
    for low, high in bridges:
        ways[low].append(high)
        ways[high].append(low)
    last = len(plate.outer) - 1
    walk = []
    back, at = last, 0
    while (back, at) != (last, 0) or not walk:
        walk.append(at)
        back, at = at, _next_right(corners, at, back, [number for number in ways[at] if number != back])
    return tuple(walk)


def walk_of(plate):
    return walk_along(plate, bridges_of(plate))


def walk_area(plate, walk):
    """Twice the area that a walk goes round."""
    corners = corners_of(plate)
    first = corners[walk[0]]
    return sum([whole_area(first, corners[one], corners[other]) for one, other in zip(walk[1:], walk[2:])])
