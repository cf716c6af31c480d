"""Rings of corners, and plates: an outer ring with holes."""

from leastfield.errors import FieldError, InvalidPlate, InvalidRing, InvalidSize
from leastfield.kinds import are_ints
from leastfield.points import whole_turn
from leastfield.rings import meets_itself, place_in, rings_meet, sides_along

_FARTHEST = 1000


def is_corner(value):
    return are_ints(value, 2) and max(value) <= _FARTHEST and min(value) >= -_FARTHEST


def ring_sides(ring):
    return tuple(sides_along(ring))


def need_ring(value):
    if not (isinstance(value, tuple) and len(value) >= 3):
        raise InvalidRing(-1)
    ahead = {}
    for at, thing in enumerate(value):
        if not is_corner(thing) or thing in ahead:
            raise InvalidRing(at)
        ahead[thing] = True
    if meets_itself(value):
        raise InvalidRing(len(value))


def is_ring(value):
    try:
        need_ring(value)
    except InvalidRing:
        return False
    return True


def ring_area(ring):
    """Twice the area of a ring, above 0 if it goes round to the left."""
    return sum([a[0] * b[1] - b[0] * a[1] for a, b in sides_along(ring)])


def turned_ring(ring):
    return ring[:1] + ring[:0:-1]


def begun(ring, at):
    return ring[at:] + ring[:at]


def straightened(ring):
    """A ring without its straight corners, from the least corner on."""
    many = len(ring)
    kept = tuple([ring[at] for at in range(many)
                  if whole_turn(ring[at - 1], ring[at], ring[(at + 1) % many]) != 0])
    return begun(kept, kept.index(min(kept)))


def _is_hole(outer, ahead, value):
    """Whether a value is a hole within an outer ring, beside the holes ahead of it."""
    if not is_ring(value) or ring_area(value) > 0:
        return False
    if any([place_in(outer, corner) != 1 for corner in value]):
        return False
    if any([rings_meet(ring, value) for ring in (outer,) + ahead]):
        return False
    # No sides meet: so one corner tells for all of its ring.
    return not any([place_in(ring, value[0]) == 1 or place_in(value, ring[0]) == 1 for ring in ahead])


class Plate:
    """An outer ring that goes round to the left, and holes that go round to the right."""

    def __init__(self, outer, holes):
        need_ring(outer)
        if ring_area(outer) < 0:
            raise InvalidPlate(-1)
        if not isinstance(holes, tuple):
            raise InvalidSize("holes")
        for at, hole in enumerate(holes):
            if not _is_hole(outer, holes[:at], hole):
                raise InvalidPlate(at)
        self.outer = outer
        self.holes = holes

    def __eq__(self, other):
        return isinstance(other, Plate) and self.outer == other.outer and self.holes == other.holes


def is_plate(value):
    return isinstance(value, Plate)


def need_plate(value):
    if not is_plate(value):
        raise InvalidPlate(-2)


def corners_of(plate):
    corners = plate.outer
    for hole in plate.holes:
        corners = corners + hole
    return corners


def rings_of(plate):
    """The rings of a plate as tuples of corner numbers."""
    rings = []
    first = 0
    for ring in (plate.outer,) + plate.holes:
        rings.append(tuple(range(first, first + len(ring))))
        first += len(ring)
    return tuple(rings)


def sides_of(plate):
    """The sides of a plate as pairs of corner numbers."""
    return tuple([side for ring in rings_of(plate) for side in sides_along(ring)])


def plate_area(plate):
    return sum([ring_area(ring) for ring in (plate.outer,) + plate.holes])


def plate_of_rings(rings):
    """The plate in one form that has these rings of corners, in any order, as its own; None if there is none."""
    outer = [ring for ring in rings if ring_area(ring) > 0]
    holes = [straightened(ring) for ring in rings if ring_area(ring) < 0]
    if len(outer) != 1 or len(outer) + len(holes) != len(rings):
        return None
    try:
        return Plate(straightened(outer[0]), tuple(sorted(holes)))
    except FieldError:
        return None


def one_form(plate):
    return plate_of_rings((plate.outer,) + plate.holes)


def same_plate(one, other):
    return one_form(one) == one_form(other)
