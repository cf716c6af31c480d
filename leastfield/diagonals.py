"""Which corners of a plate see one another."""

from leastfield.kinds import are_ints, is_place
from leastfield.plates import corners_of, sides_of
from leastfield.points import whole_area, whole_crosses, whole_on, whole_turn
from leastfield.rings import triangle_holds


def in_cone(before, at, after, to):
    """Whether the way from at to to begins strictly left of the way from before over at to after."""
    here = whole_turn(before, at, after)
    first, second = whole_turn(before, at, to), whole_turn(at, after, to)
    if here > 0:
        return first > 0 and second > 0
    # At a straight corner both turns are the same.
    return first > 0 or second > 0


def _neighbours(plate, number):
    """The corner ahead of one on its ring, and the one behind it."""
    before, after = None, None
    for one, other in sides_of(plate):
        if other == number:
            before = one
        if one == number:
            after = other
    return before, after


def sees(plate, one, other):
    """Whether the way between two corners lies wholly inside the plate."""
    if one == other:
        return False
    corners = corners_of(plate)
    a, b = corners[one], corners[other]
    before, after = _neighbours(plate, one)
    if not in_cone(corners[before], a, corners[after], b):
        return False
    if any([whole_on(a, b, corner) for corner in corners if corner not in (a, b)]):
        return False
    return not any([whole_crosses(a, b, corners[low], corners[high]) for low, high in sides_of(plate)])


def diagonals_of(plate):
    many = len(corners_of(plate))
    return tuple([(low, high) for low in range(many) for high in range(low + 1, many) if sees(plate, low, high)])


def is_diagonal(plate, value):
    if not are_ints(value, 2):
        return False
    low, high = value
    return 0 <= low < high and is_place(high, len(corners_of(plate))) and sees(plate, low, high)


def diagonals_cross(plate, pair, other):
    corners = corners_of(plate)
    return whole_crosses(corners[pair[0]], corners[pair[1]], corners[other[0]], corners[other[1]])


def sure_diagonal(plate):
    """A diagonal at the least corner, or across it; None for three corners, which have none."""
    corners = corners_of(plate)
    if len(corners) == 3:
        return None
    least = corners.index(min(corners))
    before, after = _neighbours(plate, least)
    u, v, w = corners[before], corners[least], corners[after]
    best, farthest = None, -1
    for number, corner in enumerate(corners):
        if number not in (before, least, after) and triangle_holds(u, v, w, corner):
            far = abs(whole_area(u, w, corner))
            if far > farthest:
                best, farthest = number, far
    if best is None:
        return (min(before, after), max(before, after))
    return (min(least, best), max(least, best))
