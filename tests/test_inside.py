"""[14] and [15] Points inside plates, and areas in strips."""

from fractions import Fraction
from random import Random

from leastfield import inside
from leastfield.plates import Plate, corners_of, plate_area, sides_of
from leastfield.points import is_point
from tests.checks import Checks
from tests.samples import PLATES, RING, SQUARE, STRAIGHT, THREE_HOLES, TWO_HOLES, WINDOW, at, cross, scalar, sign, xy

HUGE = 10 ** 499 + 9
EVERY = dict(PLATES, **{"three holes": THREE_HOLES})


def sides(ring):
    return [(ring[k], ring[(k + 1) % len(ring)]) for k in range(len(ring))]


def is_on(ring, p):
    return any(cross(a, b, p) == 0 and scalar(p, a, b) <= 0 for a, b in sides(ring))


def turns_along(ring, p, way):
    """Sides that cross the half line from p along a way from its right to its left, less those the other way."""
    turns = 0
    for a, b in sides(ring):
        first = cross((0, 0), way, (a[0] - p[0], a[1] - p[1]))
        second = cross((0, 0), way, (b[0] - p[0], b[1] - p[1]))
        if first == 0 or second == 0:
            return None
        if sign(first) != sign(second) and sign(second) == sign(cross(a, b, p)):
            turns += sign(second)
    return turns


def some_points(plate, seed):
    random = Random(seed)
    xs = [x for x, _ in corners_of(plate)]
    ys = [y for _, y in corners_of(plate)]
    for _ in range(60):
        yield at(Fraction(random.randint(2 * min(xs) - 3, 2 * max(xs) + 3), random.choice((1, 2, 2))),
                 Fraction(random.randint(2 * min(ys) - 3, 2 * max(ys) + 3), random.choice((1, 2, 2))))
        yield at(Fraction(random.randint(7 * min(xs), 7 * max(xs)), 7), random.randint(min(ys), max(ys)))
    for x, y in corners_of(plate):
        yield at(x, y)
        for k in (-1, 1):
            yield at(x + Fraction(k, 5), y)
            yield at(x, y + Fraction(k, 5))
    for a, b in sides_of(plate):
        (x, y), (r, u) = corners_of(plate)[a], corners_of(plate)[b]
        yield at(Fraction(2 * x + r, 3), Fraction(2 * y + u, 3))
        yield at(Fraction(x + r, 2) + Fraction(1, HUGE), Fraction(y + u, 2))


class Rings(Checks):
    def test_turns_by_other_half_lines(self):
        for seed, plate in enumerate(EVERY.values()):
            for ring in (plate.outer,) + plate.holes:
                for point in some_points(plate, seed):
                    if is_on(ring, xy(point)):
                        self.same(inside.ring_side(ring, point), 0)
                        continue
                    turns = inside.ring_turns(ring, point)
                    seen = [turns_along(ring, xy(point), way) for way in ((10007, 13), (-3, 10009), (-10039, -17), (11, -10061))]
                    self.assertEqual({turns}, {one for one in seen if one is not None} | {turns})
                    self.assertTrue(any(one is not None for one in seen))
                    self.assertIn(turns, (0, 1 if ring == plate.outer else -1))
                    self.same(inside.ring_side(ring, point), 1 if turns else -1)

    def meets(self, a, b, c, d):
        """Whether the segments from a to b and from c to d, none of them a point, have a point in common."""
        first = sign(cross(a, b, c)) * sign(cross(a, b, d))
        second = sign(cross(c, d, a)) * sign(cross(c, d, b))
        if cross(a, b, c) == cross(a, b, d) == 0:
            places = sorted(Fraction(scalar(a, b, p), scalar(a, b, b)) for p in (c, d))
            return places[0] <= 1 and places[1] >= 0
        return first <= 0 and second <= 0

    def test_along_a_way_that_meets_no_side(self):
        ways = 0
        for seed, plate in enumerate(EVERY.values()):
            some = list(some_points(plate, seed + 40))[:70]
            for ring in (plate.outer,) + plate.holes:
                for one, other in zip(some, some[3:]):
                    if one == other or any(self.meets(xy(one), xy(other), a, b) for a, b in sides(ring)):
                        continue
                    ways += 1
                    self.same(inside.ring_turns(ring, one), inside.ring_turns(ring, other))
        self.assertGreater(ways, 100)

    def test_left_and_right(self):
        for plate in EVERY.values():
            point = inside.inner_point(plate)
            self.same(inside.ring_turns(plate.outer, point), 1)
            self.same(inside.ring_turns(plate.outer[::-1], point), -1)
            self.same(inside.ring_side(plate.outer[::-1], point), 1)
            for hole in plate.holes:
                self.same(inside.ring_turns(hole, point), 0)
                self.same(inside.ring_side(hole, point), -1)
        self.same(inside.ring_turns(WINDOW.holes[0], at(3, 3)), -1)

    def test_the_half_line_through_corners(self):
        ring = ((0, 0), (4, 0), (4, 4), (6, 2), (8, 4), (8, 6), (0, 6))
        for x, y, turns in ((-1, 0, 0), (-1, 6, 0), (5, 2, 0), (5, 4, 1), (6, 4, 1), (1, 4, 1), (7, 2, 0), (-1, 2, 0), (-1, 4, 0)):
            self.same(inside.ring_turns(ring, at(x, y)), turns)


class Sides(Checks):
    def test_sides_of_plates(self):
        for seed, plate in enumerate(EVERY.values()):
            rings = (plate.outer,) + plate.holes
            for point in some_points(plate, seed + 20):
                on = any(is_on(ring, xy(point)) for ring in rings)
                turns = sum(inside.ring_turns(ring, point) for ring in rings) if not on else 0
                side = 0 if on else 2 * turns - 1
                self.same(inside.side_of(plate, point), side)
                self.same(inside.where_in(plate, point), self.where(plate, point, side))

    def where(self, plate, point, side):
        corners = corners_of(plate)
        if xy(point) in corners:
            return ("corner", corners.index(xy(point)))
        for a, b in sides_of(plate):
            if cross(corners[a], corners[b], xy(point)) == 0 and scalar(xy(point), corners[a], corners[b]) < 0:
                return ("side", a)
        return ("inside",) if side == 1 else ("outside",)

    def test_examples(self):
        self.same(inside.where_in(WINDOW, at(3, 3)), ("outside",))
        self.same(inside.where_in(WINDOW, at(2, 4)), ("corner", 5))
        self.same(inside.where_in(WINDOW, at(0, 5)), ("side", 3))
        self.same(inside.where_in(WINDOW, at(4, 3)), ("side", 6))
        self.same(inside.where_in(WINDOW, at(3, 2)), ("side", 7))
        self.same(inside.where_in(WINDOW, at(5, 5)), ("inside",))
        self.same(inside.where_in(STRAIGHT, at(2, 0)), ("corner", 1))
        self.same(inside.where_in(STRAIGHT, at(3, 0)), ("side", 1))
        self.same(inside.where_in(SQUARE, at(7, 7)), ("outside",))
        self.same(inside.side_of(SQUARE, at(Fraction(1, HUGE), Fraction(HUGE - 1, HUGE))), 1)
        self.same(inside.side_of(SQUARE, at(Fraction(-1, HUGE), 1)), -1)

    def test_inner_points(self):
        for plate in EVERY.values():
            for k in range(len(plate.outer)):
                point = inside.inner_point(Plate(plate.outer[k:] + plate.outer[:k], plate.holes))
                self.same(inside.side_of(plate, point), 1)
            for right, up in (((1, 0), (0, 1)), ((0, -1), (1, 0)), ((-1, 0), (0, -1)), ((0, 1), (-1, 0))):
                outer, *holes = [tuple((right[0] * x + right[1] * y + 7, up[0] * x + up[1] * y - 40) for x, y in ring)
                                 for ring in (plate.outer,) + plate.holes]
                turned = Plate(outer, tuple(holes))
                point = inside.inner_point(turned)
                self.same(inside.side_of(turned, point), 1)
                self.assertTrue(is_point(point))
                for top, bottom in point:
                    self.assertLess(max(abs(top), bottom), 10 ** 60)
        for outer in (((-1000, -1000), (1000, 999), (1000, 1000)), ((-999, 1000), (-1000, -1000), (1000, 999)),
                      ((0, 0), (1, 0), (1000, 1), (-1000, 1))):
            needle = Plate(outer, ())
            self.same(inside.side_of(needle, inside.inner_point(needle)), 1)


class Strips(Checks):
    def test_the_area_once_more(self):
        for plate in EVERY.values():
            self.same(inside.strips_area(plate), (plate_area(plate), 1))
            moved = Plate(tuple((-y, x) for x, y in plate.outer),
                          tuple(tuple((-y, x) for x, y in hole) for hole in plate.holes))
            self.same(inside.strips_area(moved), (plate_area(plate), 1))
        self.same(inside.strips_area(RING), (77, 1))
        self.same(inside.strips_area(TWO_HOLES), (88, 1))
