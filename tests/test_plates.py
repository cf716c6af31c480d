"""[11] to [13] Rings and plates."""

from fractions import Fraction
from random import Random

from leastfield import plates
from leastfield.errors import InvalidPlate, InvalidRing, InvalidSize
from leastfield.meshes import Mesh
from leastfield.plates import Plate
from tests.checks import Checks
from tests.samples import (ANY, COMB, DART, FAN, PLATES, RING, SLANTED, SPIRAL, SQUARE, STRAIGHT, THREE_HOLES, TRIANGLE,
                           TWO_HOLES, WINDOW, cross, nested, scalar, spoiled)

OUTER = ((0, 0), (10, 0), (10, 10), (0, 10))
HOLE = ((2, 2), (2, 4), (4, 4), (4, 2))


def sides(ring):
    return [(ring[k], ring[(k + 1) % len(ring)]) for k in range(len(ring))]


def common_points(one, other):
    """What two segments have in common: 0, 1 or 2 (more than one) points, and the one point."""
    (a, b), (c, d) = one, other
    under = (b[0] - a[0]) * (d[1] - c[1]) - (b[1] - a[1]) * (d[0] - c[0])
    if under:
        s = Fraction((c[0] - a[0]) * (d[1] - c[1]) - (c[1] - a[1]) * (d[0] - c[0])) / under
        t = Fraction((c[0] - a[0]) * (b[1] - a[1]) - (c[1] - a[1]) * (b[0] - a[0])) / under
        if 0 <= s <= 1 and 0 <= t <= 1:
            return 1, (a[0] + s * (b[0] - a[0]), a[1] + s * (b[1] - a[1]))
        return 0, None
    if cross(a, b, c):
        return 0, None
    places = sorted(Fraction(scalar(a, b, p), scalar(a, b, b)) for p in (c, d))
    low, high = max(places[0], 0), min(places[1], 1)
    if low > high:
        return 0, None
    if low < high:
        return 2, None
    return 1, (a[0] + low * (b[0] - a[0]), a[1] + low * (b[1] - a[1]))


def meets_itself(ring):
    pairs = sides(ring)
    for i in range(len(pairs)):
        for j in range(i):
            shared = set(pairs[i]) & set(pairs[j])
            many, point = common_points(pairs[i], pairs[j])
            if many != len(shared) or (shared and point not in shared):
                return True
    return False


def ring_fault(value):
    """What need_ring tells, for tuples of three or more pairs of integers."""
    for at, corner in enumerate(value):
        if max(map(abs, corner)) > 1000 or corner in value[:at]:
            return at
    return len(value) if meets_itself(value) else None


class Corners(Checks):
    def test_corners(self):
        for value in ((0, 0), (1000, -1000), (-1000, 1000), (3, 7)):
            self.assertIs(plates.is_corner(value), True)
        for value in ((1001, 0), (0, 1001), (-1001, 0), (0, -1001), [0, 0], (0,), (0, 0, 0), (0, True), (False, 0), None,
                      (0, "0"), (0, None), ((0, 1), (0, 1)), 5, "ab", FAN, (10 ** 3999, 0), nested(30), True):
            self.assertIs(plates.is_corner(value), False, value)

    def test_any_value(self):
        right = [value for value in ANY if plates.is_corner(value)]
        self.assertEqual(right, [(0, 0), (0, 1), (1, 0), (1, 2), (2, 4), (1, -2)])
        for value in spoiled((1, 5)):
            self.assertIs(plates.is_corner(value), False, value)


class Rings(Checks):
    def test_rings(self):
        for plate in PLATES.values():
            for ring in (plate.outer,) + plate.holes:
                for other in (ring, ring[::-1], ring[1:] + ring[:1]):
                    self.assertIs(plates.is_ring(other), True)
                    self.assertIsNone(plates.need_ring(other))
        self.assertIs(plates.is_ring(tuple((k, 0) for k in range(25)) + tuple((24 - k, 1) for k in range(25))), True)

    def wrong(self, told, value):
        self.raises(InvalidRing, told, plates.need_ring, value)
        self.assertIs(plates.is_ring(value), False)

    def test_no_tuples_of_three_things(self):
        for value in (None, 3, True, "abc", (), ((0, 0), (1, 0)), [(0, 0), (1, 0), (0, 1)], SQUARE, FAN, nested(30),
                      (None, None), [None, None, None]):
            self.wrong(-1, value)

    def test_first_wrong_thing(self):
        self.wrong(0, (None, (0, 0), (0, 0)))
        self.wrong(0, ("a", "b", "c"))
        self.wrong(1, ((0, 0), [1, 0], (0, 1)))
        self.wrong(2, ((0, 0), (1, 0), (0, True)))
        self.wrong(2, ((0, 0), (1, 0), (0, 1001)))
        self.wrong(1, ((0, 0), (0, 0), None))
        self.wrong(2, ((0, 0), (1, 0), (0, 0), (5, 5), "x"))
        self.wrong(4, ((0, 0), (1, 0), (1, 1), (0, 1), (1, 0)))
        self.wrong(3, ((0, 0), (4, 4), (4, 0), (0, 2000)))
        self.wrong(2, ((0, 0), (1, 0), SQUARE))

    def test_sides_that_meet(self):
        for value in (((0, 0), (1, 0), (2, 0)), ((0, 0), (2, 2), (2, 0), (0, 2)), ((0, 0), (4, 0), (2, 0), (2, 2)),
                      ((0, 0), (2, 0), (2, 2), (1, 0)), ((0, 0), (4, 0), (4, 4), (2, 0), (0, 4)),
                      ((0, 0), (2, 0), (4, 0), (3, 0), (3, 3)), ((0, 0), (0, 3), (0, 1), (4, 0)),
                      ((1, 0), (4, 0), (4, 2), (0, 2), (0, 0), (2, 0), (2, 1), (1, 1)),
                      ((2, 0), (0, 0), (1, 0), (1, 1))):
            self.wrong(len(value), value)

    def test_small_rings_at_random(self):
        random = Random(11)
        found = {True: 0, False: 0}
        for _ in range(1500):
            value = tuple((random.randint(0, 3), random.randint(0, 3)) for _ in range(random.randint(3, 6)))
            fault = ring_fault(value)
            found[fault is None] += 1
            if fault is None:
                self.assertIsNone(plates.need_ring(value))
                self.assertIs(plates.is_ring(value), True)
            else:
                self.wrong(fault, value)
        self.assertGreater(min(found.values()), 100)

    def test_any_value(self):
        for value in ANY:
            self.assertIs(plates.is_ring(value), value == ((0, 0), (1, 0), (0, 1)), value)
        for value in spoiled(((0, 0), (5, 1), (2, 6))):
            self.assertIs(plates.is_ring(value), False, value)

    def test_sides(self):
        self.same(plates.ring_sides(((0, 0), (4, 0), (0, 3))), (((0, 0), (4, 0)), ((4, 0), (0, 3)), ((0, 3), (0, 0))))
        for plate in PLATES.values():
            self.same(plates.ring_sides(plate.outer), tuple(sides(plate.outer)))

    def test_areas(self):
        self.same(plates.ring_area(((0, 0), (4, 0), (0, 3))), 12)
        self.same(plates.ring_area(HOLE), -8)
        for plate in PLATES.values():
            for ring in (plate.outer,) + plate.holes:
                area = plates.ring_area(ring)
                self.assertEqual(area, sum(cross(ring[0], a, b) for a, b in sides(ring)))
                self.assertNotEqual(area, 0)
                self.same(plates.ring_area(plates.turned_ring(ring)), -area)
                self.same(plates.ring_area(plates.straightened(ring)), area)
                for k in range(len(ring)):
                    self.same(plates.ring_area(plates.begun(ring, k)), area)

    def test_turned_and_begun(self):
        self.same(plates.turned_ring(OUTER), ((0, 0), (0, 10), (10, 10), (10, 0)))
        self.same(plates.begun(OUTER, 0), OUTER)
        self.same(plates.begun(OUTER, 3), ((0, 10), (0, 0), (10, 0), (10, 10)))
        self.same(plates.begun(OUTER, 1), ((10, 0), (10, 10), (0, 10), (0, 0)))
        for ring in (OUTER, HOLE, COMB.outer):
            self.same(plates.turned_ring(plates.turned_ring(ring)), ring)

    def test_straightened(self):
        self.same(plates.straightened(((2, 0), (2, 2), (0, 0), (1, 0))), ((0, 0), (2, 0), (2, 2)))
        self.same(plates.straightened(STRAIGHT.outer), ((0, 0), (4, 0), (4, 4), (0, 4)))
        self.same(plates.straightened(TWO_HOLES.holes[1]), ((1, 1), (1, 3), (3, 3), (3, 1)))
        self.same(plates.straightened(((5, 5), (5, 4), (5, 3), (6, 3), (7, 3))), ((5, 3), (7, 3), (5, 5)))
        for plate in PLATES.values():
            for ring in (plate.outer,) + plate.holes:
                kept = [ring[k] for k in range(len(ring)) if cross(ring[k - 1], ring[k], ring[(k + 1) % len(ring)])]
                first = kept.index(min(kept))
                for k in range(len(ring)):
                    self.same(plates.straightened(plates.begun(ring, k)), tuple(kept[first:] + kept[:first]))


class Plates(Checks):
    def test_kept(self):
        for plate in PLATES.values():
            other = Plate(plate.outer, plate.holes)
            self.same(other.outer, plate.outer)
            self.same(other.holes, plate.holes)

    def test_equal(self):
        self.assertTrue(Plate(OUTER, (HOLE,)) == Plate(OUTER, (HOLE,)))
        self.assertFalse(Plate(OUTER, (HOLE,)) != Plate(OUTER, (HOLE,)))
        for other in (Plate(OUTER, ()), Plate(OUTER, (HOLE[1:] + HOLE[:1],)), Plate(OUTER[1:] + OUTER[:1], (HOLE,)), SQUARE):
            self.assertFalse(Plate(OUTER, (HOLE,)) == other)
            self.assertTrue(Plate(OUTER, (HOLE,)) != other)
        for other in (None, 1, OUTER, (OUTER, (HOLE,)), Mesh(OUTER, (HOLE,)), "plate"):
            self.assertIs(Plate(OUTER, (HOLE,)) == other, False)
            self.assertIs(other == Plate(OUTER, (HOLE,)), False)

    def test_wrong_outer_rings(self):
        self.raises(InvalidRing, -1, Plate, None, None)
        self.raises(InvalidRing, -1, Plate, list(OUTER), ())
        self.raises(InvalidRing, 1, Plate, ((0, 0), (0, 0), (1, 1)), [])
        self.raises(InvalidRing, 4, Plate, ((0, 0), (2, 2), (2, 0), (0, 2)), (1,))
        self.raises(InvalidPlate, -1, Plate, OUTER[::-1], ())
        self.raises(InvalidPlate, -1, Plate, OUTER[::-1], None)
        self.raises(InvalidPlate, -1, Plate, HOLE, (None,))
        self.raises(InvalidPlate, -1, Plate, ((0, 0), (0, 1), (1, 0)), ())

    def test_holes_that_are_no_tuple(self):
        for holes in (None, [], [HOLE], "", 0, True, SQUARE):
            self.raises(InvalidSize, "holes", Plate, OUTER, holes)

    def wrong_hole(self, told, *holes):
        self.raises(InvalidPlate, told, Plate, OUTER, holes)

    def test_wrong_holes(self):
        for value in (None, 1, True, "abc", (), list(HOLE), HOLE[::-1], SQUARE, ((1, 1), (2, 2), (3, 3)), HOLE[:2],
                      ((2, 2), (2, 4), (4, 4), (4, True))):
            self.wrong_hole(0, value)
            self.wrong_hole(1, HOLE, value)
            self.wrong_hole(0, value, value)
        self.wrong_hole(0, ((2, 2), (3, 2), (2, 3)))
        self.assertEqual(Plate(((0, 0), (1, 0), (0, 1)), ()).holes, ())
        self.assertEqual(len(Plate(OUTER, (((2, 2), (2, 3), (3, 2)),)).holes), 1)

    def test_holes_beyond_the_outer_ring(self):
        for hole in (((0, 2), (2, 4), (2, 2)), ((8, 2), (8, 4), (10, 3)), ((8, 2), (8, 4), (11, 3)), ((20, 2), (20, 4), (22, 3)),
                     ((-5, -5), (-5, 20), (20, 20), (20, -5)), ((0, 0), (0, 10), (10, 10), (10, 0)), ((1, 1), (0, 0), (1, 2))):
            self.wrong_hole(0, hole[::-1])
            self.wrong_hole(0, hole)
        # All corners are inside, but a side goes through the notch.
        self.raises(InvalidPlate, 0, Plate, ((0, 0), (10, 0), (10, 10), (5, 2), (0, 10)), (((1, 4), (9, 4), (5, 1)),))
        # All corners are inside, and the notch's corner lies on a side.
        self.raises(InvalidPlate, 0, Plate, ((0, 0), (10, 0), (10, 10), (5, 4), (0, 10)), (((1, 4), (9, 4), (5, 1)),))
        Plate(((0, 0), (10, 0), (10, 10), (5, 5), (0, 10)), (((1, 4), (9, 4), (5, 1)),))

    def test_holes_beside_one_another(self):
        for other in (HOLE, ((4, 2), (4, 4), (6, 3)), ((4, 4), (4, 6), (6, 6), (6, 4)), ((3, 3), (3, 6), (6, 6), (6, 3)),
                      ((1, 1), (1, 5), (5, 5), (5, 1)), ((4, 3), (5, 4), (5, 2))):
            self.wrong_hole(1, HOLE, other)
            self.wrong_hole(1, other, HOLE)
            self.wrong_hole(2, HOLE, ((7, 7), (7, 8), (8, 8)), other)
        big = ((1, 1), (1, 9), (9, 9), (9, 1))
        self.wrong_hole(1, big, ((3, 3), (3, 4), (4, 4)))
        self.wrong_hole(1, ((3, 3), (3, 4), (4, 4)), big)
        self.assertEqual(len(Plate(OUTER, (HOLE, ((5, 2), (5, 4), (6, 3)))).holes), 2)

    def goes_round(self, ring, p):
        """Whether a ring goes round a pair that is not on it, told by the parity of sides to the right."""
        return sum((a[1] <= p[1]) != (b[1] <= p[1]) and (cross(a, b, p) > 0) == (b[1] > a[1]) for a, b in sides(ring)) % 2 == 1

    def is_hole(self, outer, ahead, hole):
        if sum(cross((0, 0), a, b) for a, b in sides(hole)) > 0 or meets_itself(hole):
            return False
        for ring in (outer,) + ahead:
            if any(common_points(one, other)[0] for one in sides(ring) for other in sides(hole)):
                return False
        if not all(self.goes_round(outer, p) for p in hole):
            return False
        return not any(self.goes_round(ring, hole[0]) or self.goes_round(hole, ring[0]) for ring in ahead)

    def test_holes_at_random(self):
        random = Random(19)
        outers = [((0, 0), (7, 0), (7, 7), (0, 7)), ((0, 0), (7, 0), (7, 7), (3, 3), (0, 7)), ((0, 0), (8, 0), (4, 8))]
        found = {}
        for _ in range(3000):
            outer = random.choice(outers)
            holes = tuple(tuple((random.randint(1, 6), random.randint(1, 6)) for _ in range(random.choice((3, 3, 4))))
                          for _ in range(2))
            holes = tuple(hole if sum(cross((0, 0), a, b) for a, b in sides(hole)) < 0 else hole[::-1] for hole in holes)
            if any(len(set(hole)) < len(hole) for hole in holes):
                continue
            wrong = [k for k in (0, 1) if not self.is_hole(outer, holes[:k], holes[k])]
            found[tuple(wrong)] = found.get(tuple(wrong), 0) + 1
            if wrong:
                self.raises(InvalidPlate, wrong[0], Plate, outer, holes)
            else:
                self.same(Plate(outer, holes).holes, holes)
        self.assertGreater(min(found.values()), 20)
        self.assertEqual(len(found), 4)

    def test_any_values(self):
        for value in ANY:
            if value == ((0, 0), (1, 0), (0, 1)):
                continue
            with self.assertRaises(InvalidRing):
                Plate(value, value)
            if isinstance(value, tuple):
                if value:
                    self.raises(InvalidPlate, 0, Plate, OUTER, value)
            else:
                self.raises(InvalidSize, "holes", Plate, OUTER, value)
        for value in spoiled((((5, 2), (5, 4), (6, 3)),)):
            if value != ():
                with self.assertRaises((InvalidPlate, InvalidSize)):
                    Plate(OUTER, value)

    def test_is_plate(self):
        for plate in PLATES.values():
            self.assertIs(plates.is_plate(plate), True)
            self.assertIsNone(plates.need_plate(plate))
        for value in ANY + (OUTER, (OUTER, ()), [SQUARE], (SQUARE,)):
            right = isinstance(value, Plate)
            self.assertIs(plates.is_plate(value), right)
            if not right:
                self.raises(InvalidPlate, -2, plates.need_plate, value)


class Numbers(Checks):
    def test_corner_numbers(self):
        self.same(plates.corners_of(RING), ((0, 0), (9, 0), (0, 9), (1, 1), (1, 3), (3, 1)))
        self.same(plates.rings_of(RING), ((0, 1, 2), (3, 4, 5)))
        self.same(plates.sides_of(RING), ((0, 1), (1, 2), (2, 0), (3, 4), (4, 5), (5, 3)))
        for plate in PLATES.values():
            rings = (plate.outer,) + plate.holes
            corners = plates.corners_of(plate)
            self.same(corners, sum(rings, ()))
            numbers = plates.rings_of(plate)
            self.same(tuple(tuple(corners[k] for k in ring) for ring in numbers), rings)
            self.same(sum(numbers, ()), tuple(range(len(corners))))
            self.same(plates.sides_of(plate), tuple(side for ring in numbers for side in sides(ring)))
            self.same(tuple((corners[a], corners[b]) for a, b in plates.sides_of(plate)),
                      tuple(side for ring in rings for side in sides(ring)))

    def test_areas(self):
        for plate, area in ((SQUARE, 32), (WINDOW, 64), (RING, 77), (STRAIGHT, 32), (TRIANGLE, 28), (TWO_HOLES, 88)):
            self.same(plates.plate_area(plate), area)
        for plate in PLATES.values():
            self.same(plates.plate_area(plate), sum(cross((0, 0), a, b) for ring in (plate.outer,) + plate.holes
                                                    for a, b in sides(ring)))

    def test_one_form(self):
        self.same(plates.one_form(TWO_HOLES).holes, (((1, 1), (1, 3), (3, 3), (3, 1)), ((6, 1), (7, 3), (8, 1))))
        self.same(plates.one_form(STRAIGHT).outer, SQUARE.outer)
        self.assertEqual(plates.one_form(STRAIGHT), SQUARE)
        self.same(plates.one_form(SLANTED).outer[0], (-8, -3))
        for plate in PLATES.values():
            form = plates.one_form(plate)
            self.assertEqual(plates.one_form(form), form)
            self.assertEqual(plates.plate_area(form), plates.plate_area(plate))
            self.same(form.outer, plates.straightened(plate.outer))
            self.same(form.holes, tuple(sorted(plates.straightened(hole) for hole in plate.holes)))

    def test_same_plate(self):
        turned = Plate(TWO_HOLES.outer[2:] + TWO_HOLES.outer[:2], TWO_HOLES.holes[::-1])
        self.assertIs(plates.same_plate(turned, TWO_HOLES), True)
        self.assertIs(plates.same_plate(STRAIGHT, SQUARE), True)
        self.assertIs(plates.same_plate(Plate(OUTER, ()), Plate(OUTER, (HOLE,))), False)
        everything = list(PLATES.values()) + [THREE_HOLES, SPIRAL, DART, WINDOW]
        for one in everything:
            for other in everything:
                same = one is other or {id(one), id(other)} == {id(STRAIGHT), id(SQUARE)}
                self.assertIs(plates.same_plate(one, other), same)
