"""[24] and [25] Diagonals."""

from fractions import Fraction
from itertools import product
from random import Random

from leastfield import diagonals
from leastfield.inside import side_of
from leastfield.plates import Plate, corners_of, rings_of, sides_of
from tests.checks import Checks
from tests.samples import ANY, DART, PLATES, RING, SQUARE, STRAIGHT, THREE_HOLES, TRIANGLE, TWO_HOLES, at, cross, scalar, sign, spoiled

EVERY = dict(PLATES, **{
    "three holes": THREE_HOLES,
    "straight triangle": Plate(((0, 0), (2, 0), (4, 0), (0, 4)), ()),
    "straight at the least": Plate(((0, 0), (4, 0), (2, 2), (0, 4), (0, 2)), ()),
    "hole in a triangle": Plate(((0, 0), (9, 0), (0, 9)), (((1, 1), (1, 2), (2, 2), (2, 1)),)),
    "on the line": Plate(((0, 0), (4, 0), (8, 0), (8, 8), (4, 4), (0, 8)), ()),
    "notch to the line": Plate(((0, 0), (4, -1), (6, 4), (2, 2), (1, 1), (-1, 4)), ()),
})


def meets(a, b, c, d):
    """Whether the segment from a to b, without its ends, has a point in common with that from c to d, ends counted."""
    under = (b[0] - a[0]) * (d[1] - c[1]) - (b[1] - a[1]) * (d[0] - c[0])
    if under:
        s = Fraction((c[0] - a[0]) * (d[1] - c[1]) - (c[1] - a[1]) * (d[0] - c[0])) / under
        t = Fraction((c[0] - a[0]) * (b[1] - a[1]) - (c[1] - a[1]) * (b[0] - a[0])) / under
        return 0 < s < 1 and 0 <= t <= 1
    if cross(a, b, c):
        return False
    places = sorted(Fraction(scalar(a, b, p), scalar(a, b, b)) for p in (c, d))
    return max(places[0], 0) < min(places[1], 1) or 0 < places[0] < 1 or 0 < places[1] < 1


def see(plate, one, other):
    """Whether two corners see one another, by the words of [24]."""
    corners = corners_of(plate)
    if one == other:
        return False
    a, b = corners[one], corners[other]
    if any(meets(a, b, corners[c], corners[d]) for c, d in sides_of(plate)):
        return False
    return side_of(plate, at(Fraction(a[0] + b[0], 2), Fraction(a[1] + b[1], 2))) == 1


class Cones(Checks):
    def angle_from(self, start, way):
        """A key by which ways are in order of their angles to the left of a start, 0 for its own direction."""
        side, along = cross((0, 0), start, way), scalar((0, 0), start, way)
        if side == 0:
            return (0, 0) if along > 0 else (2, 0)
        return (1 if side > 0 else 3, -Fraction(along, abs(side)) if side > 0 else Fraction(along, abs(side)))

    def test_all_small_ways(self):
        some = [way for way in product((-2, -1, 0, 1, 2), repeat=2) if way != (0, 0)]
        for before, after, to in product(some, repeat=3):
            if self.angle_from(after, before) == (0, 0) or len({before, after, to}) < 3:
                continue
            right = (0, 0) < self.angle_from(after, to) < self.angle_from(after, before)
            here = (7, -3)
            moved = [(here[0] + x, here[1] + y) for x, y in (before, after, to)]
            self.assertIs(diagonals.in_cone(moved[0], here, moved[1], moved[2]), right, (before, after, to))

    def test_corners(self):
        # A corner to the left, one to the right, a straight one.
        self.assertIs(diagonals.in_cone((0, 4), (0, 0), (4, 0), (1, 1)), True)
        self.assertIs(diagonals.in_cone((0, 4), (0, 0), (4, 0), (-1, 1)), False)
        self.assertIs(diagonals.in_cone((0, 4), (0, 0), (4, 0), (0, 9)), False)
        self.assertIs(diagonals.in_cone((0, 4), (0, 0), (4, 0), (9, 0)), False)
        self.assertIs(diagonals.in_cone((4, 0), (0, 0), (0, 4), (1, 1)), False)
        self.assertIs(diagonals.in_cone((4, 0), (0, 0), (0, 4), (-1, -1)), True)
        self.assertIs(diagonals.in_cone((4, 0), (0, 0), (0, 4), (-1, 0)), True)
        self.assertIs(diagonals.in_cone((4, 0), (0, 0), (0, 4), (9, 0)), False)
        self.assertIs(diagonals.in_cone((4, 0), (0, 0), (0, 4), (0, 2)), False)
        self.assertIs(diagonals.in_cone((-1, 0), (0, 0), (1, 0), (5, 1)), True)
        self.assertIs(diagonals.in_cone((-1, 0), (0, 0), (1, 0), (5, -1)), False)
        self.assertIs(diagonals.in_cone((-1, 0), (0, 0), (1, 0), (5, 0)), False)
        self.assertIs(diagonals.in_cone((-1, 0), (0, 0), (1, 0), (-5, 0)), False)


class Seeing(Checks):
    def test_who_sees_whom(self):
        for plate in EVERY.values():
            many = len(corners_of(plate))
            found = []
            for one in range(many):
                self.assertIs(diagonals.sees(plate, one, one), False)
                for other in range(many):
                    self.assertIs(diagonals.sees(plate, one, other), see(plate, one, other))
                    if one < other and see(plate, one, other):
                        found.append((one, other))
            self.same(diagonals.diagonals_of(plate), tuple(found))

    def test_random_stars(self):
        random = Random(6)
        ways = [(3, 1), (2, 2), (1, 3), (-1, 3), (-3, 2), (-2, -1), (-1, -3), (1, -2), (3, -2)]
        for _ in range(30):
            outer = tuple((often * x, often * y) for x, y in ways for often in [random.randint(1, 4)])
            plate = Plate(outer, ())
            for one, other in product(range(9), repeat=2):
                self.assertIs(diagonals.sees(plate, one, other), see(plate, one, other))

    def test_known_plates(self):
        self.same(diagonals.diagonals_of(DART), ((0, 2),))
        self.same(diagonals.diagonals_of(SQUARE), ((0, 2), (1, 3)))
        self.same(diagonals.diagonals_of(TRIANGLE), ())
        self.same(diagonals.diagonals_of(RING), tuple(product((0, 1, 2), (3, 4, 5))))

    def test_is_diagonal(self):
        for plate in (DART, SQUARE, RING, STRAIGHT):
            right = diagonals.diagonals_of(plate)
            many = len(corners_of(plate))
            for one in range(-many - 1, many + 2):
                for other in range(-many - 1, many + 2):
                    self.assertIs(diagonals.is_diagonal(plate, (one, other)), (one, other) in right)
            for pair in right:
                for value in spoiled(pair):
                    self.assertIs(diagonals.is_diagonal(plate, value), False, value)
            for value in ANY:
                if not (isinstance(value, tuple) and repr(value) in [repr(pair) for pair in right]):
                    self.assertIs(diagonals.is_diagonal(plate, value), False, value)
        self.assertIs(diagonals.is_diagonal(SQUARE, (True, 3)), False)
        self.assertIs(diagonals.is_diagonal(SQUARE, (False, 2)), False)
        self.assertIs(diagonals.is_diagonal(SQUARE, [0, 2]), False)

    def test_crossing(self):
        for plate in EVERY.values():
            corners = corners_of(plate)
            for (a, b), (c, d) in product(diagonals.diagonals_of(plate), repeat=2):
                p, q, r, s = [corners[k] for k in (a, b, c, d)]
                right = sign(cross(p, q, r)) * sign(cross(p, q, s)) < 0 and sign(cross(r, s, p)) * sign(cross(r, s, q)) < 0
                self.assertIs(diagonals.diagonals_cross(plate, (a, b), (c, d)), right)
        self.assertIs(diagonals.diagonals_cross(SQUARE, (0, 2), (1, 3)), True)
        self.assertIs(diagonals.diagonals_cross(SQUARE, (0, 2), (0, 2)), False)


class Sure(Checks):
    def by_words(self, plate):
        corners = corners_of(plate)
        v = corners.index(min(corners))
        (ring,) = [ring for ring in rings_of(plate) if v in ring]
        u, w = ring[ring.index(v) - 1], ring[(ring.index(v) + 1) % len(ring)]
        p, q, r = corners[u], corners[v], corners[w]
        there = [k for k, s in enumerate(corners) if k not in (u, v, w)
                 and cross(p, q, s) >= 0 and cross(q, r, s) >= 0 and cross(r, p, s) >= 0]
        if not there:
            return (min(u, w), max(u, w))
        far = max(abs(cross(p, r, corners[k])) for k in there)
        best = min(k for k in there if abs(cross(p, r, corners[k])) == far)
        return (min(v, best), max(v, best))

    def test_sure_diagonals(self):
        for plate in EVERY.values():
            for k in range(len(plate.outer)):
                other = Plate(plate.outer[k:] + plate.outer[:k], plate.holes[k % 2:] + plate.holes[:k % 2])
                found = diagonals.sure_diagonal(other)
                if len(corners_of(other)) == 3:
                    self.assertIsNone(found)
                else:
                    self.same(found, self.by_words(other))
                    self.assertTrue(see(other, *found))

    def test_known_ones(self):
        self.same(diagonals.sure_diagonal(DART), (0, 2))
        self.assertIsNone(diagonals.sure_diagonal(TRIANGLE))
        self.same(diagonals.sure_diagonal(SQUARE), (1, 3))
        self.same(diagonals.sure_diagonal(RING), (0, 3))
        # Two corners as far from the line: that with the least number.
        self.same(diagonals.sure_diagonal(Plate(((0, 0), (8, 0), (0, 8)), (((2, 3), (3, 4), (4, 3), (3, 2)),))), (0, 3))
        self.same(diagonals.sure_diagonal(Plate(((0, 0), (8, 0), (0, 8)), (((3, 2), (2, 3), (3, 4), (4, 3)),))), (0, 3))
        # A corner on the line itself, and no other.
        self.same(diagonals.sure_diagonal(Plate(((0, 0), (4, 0), (2, 2), (0, 4)), ())), (0, 2))
        self.same(diagonals.sure_diagonal(TWO_HOLES), self.by_words(TWO_HOLES))
