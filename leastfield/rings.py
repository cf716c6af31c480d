"""Rings of pairs of integers: how their sides meet, and what lies within them."""

from leastfield.points import whole_area, whole_crosses, whole_on, whole_turn


def sides_along(ring):
    """The list of the sides of a ring, that from its first corner first."""
    return list(zip(ring, ring[1:] + ring[:1]))


def _apart(first, second):
    """Whether two sides are apart already by their widths or heights."""
    (a, b), (c, d) = first, second
    return (max(a[0], b[0]) < min(c[0], d[0]) or max(c[0], d[0]) < min(a[0], b[0])
            or max(a[1], b[1]) < min(c[1], d[1]) or max(c[1], d[1]) < min(a[1], b[1]))


def _meet(first, second):
    """Whether two sides have a point in common."""
    if _apart(first, second):
        return False
    (a, b), (c, d) = first, second
    return (whole_crosses(a, b, c, d) or whole_on(a, b, c) or whole_on(a, b, d)
            or whole_on(c, d, a) or whole_on(c, d, b))


def turns_back(a, b, c):
    """Whether the way from b to c begins along the way from b to a."""
    return whole_area(a, b, c) == 0 and (a[0] - b[0]) * (c[0] - b[0]) + (a[1] - b[1]) * (c[1] - b[1]) > 0


def meets_itself(ring):
    """Whether sides of a ring of unlike corners meet otherwise than as neighbours do."""
    sides = sides_along(ring)
    many = len(sides)
    for at, (a, b) in enumerate(sides):
        if turns_back(a, b, sides[(at + 1) % many][1]):
            return True
        # The neighbours, also the last one of the first, are told by turns_back alone.
        for other in sides[at + 2:many - (at == 0)]:
            if _meet((a, b), other):
                return True
    return False


def rings_meet(one, other):
    """Whether sides of two rings have a point in common."""
    others = sides_along(other)
    return any([_meet(first, second) for first in sides_along(one) for second in others])


def triangle_holds(a, b, c, p):
    """Whether a pair lies in a triangle that is turned left, or on its border."""
    return min(whole_turn(a, b, p), whole_turn(b, c, p), whole_turn(c, a, p)) >= 0


def turns_round(ring, pair):
    """How often a ring goes round a pair of integers that is on none of its sides."""
    turns = 0
    for a, b in sides_along(ring):
        if a[1] <= pair[1] < b[1] and whole_turn(a, b, pair) > 0:
            turns += 1
        elif b[1] <= pair[1] < a[1] and whole_turn(a, b, pair) < 0:
            turns -= 1
    return turns


def side_at(ring, pair):
    """The place of the side of a ring that a pair of integers is on, None if there is none."""
    for at, (a, b) in enumerate(sides_along(ring)):
        if whole_on(a, b, pair):
            return at
    return None


def place_in(ring, pair):
    """0 for a pair of integers on a ring, 1 inside, -1 outside."""
    if side_at(ring, pair) is not None:
        return 0
    if turns_round(ring, pair) != 0:
        return 1
    return -1
