"""[8] to [10] Points."""

from fractions import Fraction
from random import Random

from leastfield import points
from leastfield.errors import InvalidPoint, Refused
from tests.checks import Checks
from tests.samples import (ANY, FAN, at, circle_determinant, cross, frac, random_frac, random_point, scalar, sign, spoiled,
                           worth_of, xy)

HUGE = 10 ** 499 + 3


def fours(seed, many=80):
    """Many lots of four points, some of them on one line, on one circle, or the same."""
    random = Random(seed)
    some = [tuple(random_point(random) for _ in range(4)) for _ in range(many)]
    small = [tuple(at(random.randint(0, 2), random.randint(0, 2)) for _ in range(4)) for _ in range(many)]
    return some + small + [(at(0, 0), at(2, 0), at(0, 2), at(2, 2)), (at(0, 0), at(1, 0), at(2, 0), at(3, 0)),
                           (at(1, 1),) * 4, (at(5, 0), at(-3, 4), at(-4, -3), at(4, -3)),
                           (at(Fraction(1, HUGE), 0), at(1, Fraction(2, HUGE + 1)), at(0, 1), at(3, Fraction(HUGE, 7)))]


def left(a, b, c):
    """The three points, turned left, or None."""
    area = cross(xy(a), xy(b), xy(c))
    if area == 0:
        return None
    return (a, b, c) if area > 0 else (a, c, b)


class WhatIsAPoint(Checks):
    def test_points(self):
        for value in (at(0, 0), at(1, Fraction(-5, 3)), ((HUGE, 1), (1, HUGE))):
            self.assertIs(points.is_point(value), True)
            self.assertIsNone(points.need_point(value))

    def test_wrong_things(self):
        for value in (None, True, 3, "ab", [(0, 1), (0, 1)], (), ((0, 1),), ((0, 1),) * 3, FAN, "", (1, 2, 3)):
            self.raises(InvalidPoint, -1, points.need_point, value)
            self.assertIs(points.is_point(value), False)
        for place, value in ((0, (1, 1)), (0, (None, None)), (0, ((0, 2), (0, 1))), (0, ([0, 1], (0, 1))), (0, (FAN, FAN)),
                             (1, ((0, 1), (0, 2))), (1, ((0, 1), None)), (1, ((0, 1), [0, 1])), (1, ((0, 1), (True, 1))),
                             (0, ((True, 1), (0, 2))), (1, ((0, 1), (1, 0))), (1, ((0, 1), ((0, 1), (0, 1))))):
            self.raises(InvalidPoint, place, points.need_point, value)
            self.assertIs(points.is_point(value), False)

    def test_any_value(self):
        for value in ANY:
            self.assertIs(points.is_point(value), value == ((0, 1), (0, 1)), value)
        for value in spoiled(at(1, Fraction(1, 2))):
            self.assertIs(points.is_point(value), False, value)
            with self.assertRaises(InvalidPoint):
                points.need_point(value)

    def test_point_at(self):
        self.same(points.point_at(3, -4), ((3, 1), (-4, 1)))
        self.same(points.point_at(0, HUGE), ((0, 1), (HUGE, 1)))


class Ways(Checks):
    def test_moved_and_middle(self):
        random = Random(1)
        for a, b, c, d in fours(1):
            part = random_frac(random)
            (x, y), (r, u), t = xy(a), xy(b), worth_of(part)
            self.same(points.moved(a, b, part), at(x + t * (r - x), y + t * (u - y)))
            self.same(points.middle(a, b), at((x + r) / 2, (y + u) / 2))
        self.same(points.moved(at(1, 2), at(5, 5), (0, 1)), at(1, 2))
        self.same(points.moved(at(1, 2), at(5, 5), (1, 1)), at(5, 5))

    def test_products(self):
        for a, b, c, d in fours(2):
            self.same(points.dot(a, b, c), frac(scalar(xy(a), xy(b), xy(c))))
            self.same(points.squared_distance(a, b), frac(scalar(xy(a), xy(b), xy(b))))
            area = cross(xy(a), xy(b), xy(c))
            self.same(points.doubled_area(a, b, c), frac(area))
            self.same(points.turn(a, b, c), sign(area))
            parts = [worth_of(points.doubled_area(*three)) for three in ((a, b, d), (b, c, d), (c, a, d))]
            self.assertEqual(sum(parts), area)

    def test_left_is_above_0(self):
        self.same(points.doubled_area(at(0, 0), at(1, 0), at(0, 1)), (1, 1))
        self.same(points.turn(at(0, 0), at(0, 1), at(1, 0)), -1)
        self.same(points.turn(at(0, 0), at(1, 1), at(3, 3)), 0)


class Circles(Checks):
    def test_the_determinant(self):
        for a, b, c, d in fours(3):
            number = circle_determinant(xy(a), xy(b), xy(c), xy(d))
            self.same(points.circle_number(a, b, c, d), frac(number))
            self.same(points.circle_side(a, b, c, d), sign(number))
            for other in ((b, a, c, d), (a, c, b, d), (d, b, c, a), (a, b, d, c)):
                self.same(points.circle_number(*other), frac(-number))

    def test_centres(self):
        for a, b, c, d in fours(4):
            area = cross(xy(a), xy(b), xy(c))
            if area == 0:
                self.raises(Refused, "straight", points.circle_centre, a, b, c)
                continue
            centre = points.circle_centre(a, b, c)
            self.assertTrue(points.is_point(centre))
            radius = scalar(xy(centre), xy(a), xy(a))
            self.assertEqual(radius, scalar(xy(centre), xy(b), xy(b)))
            self.assertEqual(radius, scalar(xy(centre), xy(c), xy(c)))
            gap = scalar(xy(centre), xy(d), xy(d))
            self.same(points.circle_number(a, b, c, d), frac(area * (radius - gap)))

    def test_sides(self):
        a, b, c = at(5, 0), at(-3, 4), at(-4, -3)
        self.same([points.circle_side(a, b, c, d) for d in (at(0, 0), at(4, -3), at(5, 5))], [1, 0, -1])


class Triangles(Checks):
    def test_parts(self):
        for a, b, c, p in fours(5):
            if cross(xy(a), xy(b), xy(c)) == 0:
                self.raises(Refused, "straight", points.parts_of, a, b, c, p)
                continue
            parts = points.parts_of(a, b, c, p)
            self.assertEqual([len(parts), type(parts)], [3, tuple])
            worths = [worth_of(part) for part in parts]
            self.assertEqual(parts, tuple(frac(one) for one in worths))
            self.assertEqual(sum(worths), 1)
            for k in (0, 1):
                self.assertEqual(sum(one * xy(q)[k] for one, q in zip(worths, (a, b, c))), xy(p)[k])
        self.raises(Refused, "straight", points.parts_of, at(0, 0), at(0, 0), at(1, 0), at(0, 0))

    def test_sides(self):
        for a, b, c, p in fours(6, 200):
            three = left(a, b, c)
            if three:
                parts = [worth_of(part) for part in points.parts_of(*three, p)]
                self.same(points.triangle_side(*three, p), sign(min(parts)))
        self.same([points.triangle_side(at(0, 0), at(2, 0), at(0, 2), p)
                   for p in (at(1, 1), at(0, 0), at(3, 0), at(Fraction(1, 2), 1), at(-1, 0), at(2, 2), at(0, 3))],
                  [0, 0, -1, 1, -1, -1, -1])


class Segments(Checks):
    def on(self, a, b, p):
        (x, y), (r, u), (s, t) = a, b, p
        return cross(a, b, p) == 0 and min(x, r) <= s <= max(x, r) and min(y, u) <= t <= max(y, u)

    def common(self, a, b, c, d):
        """The one crossing point of two segments by solving the equations, None if they do not cross."""
        under = (b[0] - a[0]) * (d[1] - c[1]) - (b[1] - a[1]) * (d[0] - c[0])
        if under == 0:
            return None
        s = Fraction((c[0] - a[0]) * (d[1] - c[1]) - (c[1] - a[1]) * (d[0] - c[0])) / under
        t = Fraction((c[0] - a[0]) * (b[1] - a[1]) - (c[1] - a[1]) * (b[0] - a[0])) / under
        if 0 < s < 1 and 0 < t < 1:
            return at(a[0] + s * (b[0] - a[0]), a[1] + s * (b[1] - a[1]))
        return None

    def test_crossing(self):
        for a, b, c, d in fours(7, 200):
            found = self.common(xy(a), xy(b), xy(c), xy(d))
            self.assertIs(points.crosses(a, b, c, d), found is not None)
            self.same(points.crossing_point(a, b, c, d), found)

    def test_on_segments(self):
        for a, b, c, d in fours(8, 200):
            self.assertIs(points.on_segment(a, b, c), self.on(xy(a), xy(b), xy(c)))
            self.assertIs(points.on_segment(a, b, points.middle(a, b)), True)
            self.assertIs(points.on_segment(a, b, a), True)
            self.assertIs(points.on_segment(a, b, b), True)
            self.assertIs(points.on_segment(a, a, b), a == b)
            self.assertIs(points.on_segment(a, b, points.moved(a, b, (5, 4))), a == b)

    def test_ends_do_not_cross(self):
        a, b = at(0, 0), at(4, 0)
        for c, d in ((at(2, 0), at(2, 3)), (at(0, 0), at(1, 3)), (at(1, 0), at(3, 0)), (at(4, 0), at(5, 0)), (at(2, 0),) * 2):
            self.assertIs(points.crosses(a, b, c, d), False)
            self.assertIs(points.crosses(c, d, a, b), False)
            self.assertIsNone(points.crossing_point(a, b, c, d))
        self.assertIs(points.crosses(a, b, at(2, -1), at(2, 3)), True)
        self.same(points.crossing_point(a, b, at(2, -1), at(3, 3)), at(Fraction(9, 4), 0))

    def test_feet(self):
        for a, b, p, q in fours(9):
            if a == b:
                self.raises(Refused, "same", points.foot_of, a, b, p)
                continue
            foot = points.foot_of(a, b, p)
            self.assertTrue(points.is_point(foot))
            self.assertEqual(cross(xy(a), xy(b), xy(foot)), 0)
            self.assertEqual((xy(b)[0] - xy(a)[0]) * (xy(p)[0] - xy(foot)[0])
                             + (xy(b)[1] - xy(a)[1]) * (xy(p)[1] - xy(foot)[1]), 0)


class Wholes(Checks):
    def test_pairs_of_integers(self):
        random = Random(10)
        lots = [tuple((random.randint(-3, 3), random.randint(-3, 3)) for _ in range(4)) for _ in range(400)]
        lots += [((0, 0), (10 ** 20, 1), (10 ** 20 - 1, 1), (5, 10 ** 19)), ((0, 0), (2, 2), (0, 2), (2, 0))]
        for a, b, c, d in lots:
            p, q, r, s = [at(*pair) for pair in (a, b, c, d)]
            self.same(points.whole_area(a, b, c), cross(a, b, c))
            self.same(points.whole_turn(a, b, c), sign(cross(a, b, c)))
            self.assertIs(points.whole_on(a, b, c), self.on(a, b, c))
            self.assertIs(points.whole_crosses(a, b, c, d), points.crosses(p, q, r, s))

    def on(self, a, b, p):
        if a == b:
            return p == a
        part = Fraction(scalar(a, b, p), scalar(a, b, b))
        return cross(a, b, p) == 0 and 0 <= part <= 1
