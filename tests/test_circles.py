"""[33] and [34] Circles, what triangles see, and papers of the circle test."""

from fractions import Fraction
from functools import cmp_to_key
from random import Random

from leastfield import circles
from leastfield.flips import can_flip, failing, flipped, passes
from leastfield.meshes import borders_of, inner_edges, mesh_of, renumbered
from leastfield.points import circle_centre
from tests.checks import Checks
from tests.grown import ALL_GROWN, CLEAR, TORN, grown
from tests.samples import (ANY, FLAT, KITE, MANY_SMALL, MESHES, ONE, SPIRAL, STEEP, TWO_HOLES, at, cross, frac, random_point,
                           scalar, spoiled, xy)
from tests.test_flips import SHAKEN, four

SMALL = list(MESHES.values())[:9] + MANY_SMALL[:3] + SHAKEN[9:14] + ALL_GROWN


def span_of(c, corners):
    """The corners that are met first and last, turning left at c, of a triangle that does not hold c within it."""
    away = [p for p in corners if p != c]
    first = [p for p in away if all(cross(c, p, q) >= 0 for q in away)][0]
    last = [p for p in away if all(cross(c, p, q) <= 0 for q in away)][0]
    return first, last


def stretch_along(c, way, corners):
    """From where to where a ray from c, as parts of the way, runs through a triangle."""
    parts = []
    for p, q in zip(corners, corners[1:] + corners[:1]):
        side, other = cross((0, 0), way, (p[0] - c[0], p[1] - c[1])), cross((0, 0), way, (q[0] - c[0], q[1] - c[1]))
        if side * other < 0:
            part = Fraction(side) / (side - other)
            spot = (p[0] + part * (q[0] - p[0]), p[1] + part * (q[1] - p[1]))
            parts.append(scalar((0, 0), way, (spot[0] - c[0], spot[1] - c[1])) / Fraction(scalar((0, 0), way, way)))
    return (min(parts), max(parts)) if len(parts) == 2 else (Fraction(0), parts[0])


def lies_on(a, b, p):
    return cross(a, b, p) == 0 and scalar(p, a, b) <= 0


def is_free(c, place, borders):
    """Whether the way from a place to c meets no border edge ahead of c."""
    for p, q in borders:
        if c in (p, q):
            other = q if p == c else p
            if cross(c, place, other) == 0 and scalar(c, place, other) > 0:
                return False
        elif lies_on(c, place, p) or lies_on(c, place, q) or lies_on(p, q, place):
            return False
        elif cross(c, place, p) * cross(c, place, q) < 0 and cross(p, q, c) * cross(p, q, place) < 0:
            return False
    return True


def sight(mesh, number, corner):
    """A way from a corner and a place strictly within a triangle on it that sees the corner, None if there is none.

    Ways in all directions between those of points are tried.
    """
    spots = [xy(point) for point in mesh.points]
    c = spots[corner]
    corners = [spots[k] for k in mesh.triangles[number]]
    borders = [(spots[a], spots[b]) for a, b in borders_of(mesh)]
    first, last = span_of(c, corners)
    within = [p for p in spots if p != c and cross(c, first, p) > 0 and cross(c, p, last) > 0]
    within.sort(key=cmp_to_key(lambda p, q: -1 if cross(c, p, q) > 0 else cross(c, p, q) < 0))
    row = [first] + within + [last]
    for p, q in zip(row, row[1:]):
        if cross(c, p, q) > 0:
            way = (p[0] + q[0] - 2 * c[0], p[1] + q[1] - 2 * c[1])
            low, high = stretch_along(c, way, corners)
            place = tuple(c[k] + (low + high) / 2 * way[k] for k in (0, 1))
            if is_free(c, place, borders):
                return way, place
    return None


# What was found, so that nothing is looked for twice.
FOUND = {}


def known_sight(mesh, number, corner):
    key = (mesh.points, mesh.triangles, number, corner)
    if key not in FOUND:
        FOUND[key] = sight(mesh, number, corner)
    return FOUND[key]


def sees(mesh, number, corner):
    return known_sight(mesh, number, corner) is not None


def triangles_along(mesh, corner, way, number):
    """The numbers of the triangles along a way from a triangle to a corner."""
    spots = [xy(point) for point in mesh.points]
    c, parts = spots[corner], {}
    for k, triangle in enumerate(mesh.triangles):
        corners = [spots[n] for n in triangle]
        sides = [cross((0, 0), way, (p[0] - c[0], p[1] - c[1])) for p in corners]
        if min(sides) < 0 < max(sides):
            parts[k] = stretch_along(c, way, corners)[1]
    return sorted([k for k in parts if 0 < parts[k] <= parts[number]], key=lambda k: -parts[k])


def squared_gap(mesh, number, point):
    """The squared distance from the centre of a circle less the squared radius."""
    a, b, c = [mesh.points[k] for k in mesh.triangles[number]]
    centre = xy(circle_centre(a, b, c))
    return scalar(centre, xy(point), xy(point)) - scalar(centre, xy(a), xy(a))


class Circles(Checks):
    def test_powers(self):
        random = Random(1)
        for mesh in SMALL:
            for number, triangle in enumerate(mesh.triangles):
                for k in triangle:
                    self.same(circles.power(mesh, number, mesh.points[k]), (0, 1))
                for point in (random_point(random), random.choice(mesh.points)):
                    self.same(circles.power(mesh, number, point), frac(squared_gap(mesh, number, point)))
        self.same(circles.power(STEEP, 1, at(-1, 0)), (-4, 1))
        self.same(circles.power(ONE, 0, at(2, 3)), (16 - 5, 1))

    def test_seen_from(self):
        hidden = 0
        for mesh in SMALL:
            for corner in range(len(mesh.points)):
                expected = tuple(k for k in range(len(mesh.triangles)) if sees(mesh, k, corner))
                hidden += len(mesh.triangles) - len(expected)
                self.same(circles.seen_from(mesh, corner), expected)
        self.assertGreater(hidden, 200)

    def test_only_touching_sights_do_not_count(self):
        # From corner 0 all beyond corner 1 and 2 is hidden: the way there runs along the border, or meets an end of it.
        mesh = mesh_of([at(0, 0), at(2, 0), at(4, 0), at(4, 2), at(2, 1), at(0, 2), at(5, 4)],
                       [(0, 1, 4), (1, 2, 4), (2, 3, 4), (0, 4, 5), (3, 6, 4)])
        self.same(circles.seen_from(mesh, 0), (0, 1, 2, 3))
        self.same(tuple(k for k in range(5) if sees(mesh, k, 0)), (0, 1, 2, 3))
        self.same(circles.seen_from(mesh, 5), tuple(k for k in range(5) if sees(mesh, k, 5)))

    def test_held(self):
        for mesh in SMALL:
            expected = tuple((number, corner) for number in range(len(mesh.triangles)) for corner, point in enumerate(mesh.points)
                             if squared_gap(mesh, number, point) < 0 and sees(mesh, number, corner))
            self.same(circles.held(mesh), expected)
            self.assertIs(circles.clear_circles(mesh), expected == ())
        self.same(circles.held(STEEP), ((0, 1), (1, 0)))
        self.same(circles.held(ONE), ())

    def test_none_is_held_exactly_if_all_edges_pass(self):
        seen = set()
        for mesh in SMALL + SHAKEN + TORN:
            self.assertIs(circles.clear_circles(mesh), failing(mesh) == ())
            seen.add(failing(mesh) == ())
        self.assertEqual(seen, {True, False})

    def test_powers_never_rise_on_the_way_to_a_corner(self):
        long = 0
        for mesh in CLEAR:
            for corner, point in enumerate(mesh.points):
                for number in range(len(mesh.triangles)):
                    found = known_sight(mesh, number, corner)
                    if found is not None:
                        row = triangles_along(mesh, corner, found[0], number)
                        powers = [squared_gap(mesh, k, point) for k in row]
                        long += len(row) > 3
                        self.assertEqual((row[0], powers[-1]), (number, 0))
                        self.assertEqual(powers, sorted(powers, reverse=True))
        self.assertGreater(long, 100)

    def test_hidden_corners_may_be_within_circles(self):
        hidden = 0
        for mesh in CLEAR:
            for number in range(len(mesh.triangles)):
                for corner, point in enumerate(mesh.points):
                    if circles.power(mesh, number, point)[0] < 0:
                        hidden += 1
                        self.assertNotIn(number, circles.seen_from(mesh, corner))
        self.assertGreater(hidden, 5)

    def test_many_points(self):
        for plate, seed in ((SPIRAL, 1), (TWO_HOLES, 2)):
            mesh = grown(plate, seed, 28)
            self.assertIs(circles.clear_circles(mesh), failing(mesh) == ())


class Papers(Checks):
    def test_clear(self):
        for mesh in SMALL + SHAKEN:
            rows = []
            for edge in inner_edges(mesh):
                _, _, c, d = four(mesh, edge)
                rows.append((edge, min(c, d), max(c, d)))
            paper = tuple(rows)
            right = failing(mesh) == ()
            self.same(circles.clear_paper(mesh), paper if right else None)
            self.assertIs(circles.check_clear(mesh, paper), right)
            if right and paper:
                for value in (paper[1:], paper[:-1], paper + paper[:1], list(paper), paper[:-1] + ((paper[-1][0],) + paper[-1][:0:-1],)):
                    self.assertIs(circles.check_clear(mesh, value), False)
                if len(paper) > 1:
                    self.assertIs(circles.check_clear(mesh, paper[::-1]), False)
        self.same(circles.clear_paper(ONE), ())
        self.same(circles.clear_paper(KITE), (((0, 2), 1, 3),))
        self.assertIs(circles.check_clear(ONE, ()), True)
        self.assertIs(circles.check_clear(STEEP, None), False)

    def test_torn(self):
        for mesh in SMALL + SHAKEN:
            wrong = failing(mesh)
            paper = circles.torn_paper(mesh)
            if not wrong:
                self.assertIsNone(paper)
                self.assertIs(circles.check_torn(mesh, None), False)
            else:
                edge, corner = paper
                self.assertIn(edge, wrong)
                self.assertIn(corner, four(mesh, edge)[2:])
                self.assertIs(circles.check_torn(mesh, paper), True)
            for edge in inner_edges(mesh):
                for corner in range(len(mesh.points)):
                    right = edge in wrong and corner in four(mesh, edge)[2:]
                    self.assertIs(circles.check_torn(mesh, (edge, corner)), right)
                    self.assertIs(circles.check_torn(mesh, [edge, corner]), False)
                    self.assertIs(circles.check_torn(mesh, (edge[::-1], corner)), False)
            for edge in borders_of(mesh):
                self.assertIs(circles.check_torn(mesh, (edge, 0)), False)
        self.assertIs(circles.check_torn(STEEP, ((2, 3), 0)), True)
        self.assertIs(circles.check_torn(STEEP, ((2, 3), 1)), True)

    def test_any_value(self):
        for mesh in (KITE, FLAT, STEEP, ONE):
            clear, torn = circles.clear_paper(mesh), circles.torn_paper(mesh)
            for value in ANY:
                if mesh is not ONE or value != ():
                    self.assertIs(circles.check_clear(mesh, value), False, value)
                self.assertIs(circles.check_torn(mesh, value), False, value)
            for value in spoiled(clear):
                self.assertIs(circles.check_clear(mesh, value), mesh is ONE and value == (), value)
            for value in spoiled(torn):
                self.assertIs(circles.check_torn(mesh, value), False, value)
        self.assertIs(circles.check_torn(STEEP, ((2, 3), True)), False)
        self.assertIs(circles.check_torn(STEEP, ((2, 3), False)), False)
        # The failing edge is (0, 1), the corners opposite are 2 and 3.
        mesh = renumbered(STEEP, (2, 3, 0, 1))
        self.assertIs(circles.check_torn(mesh, ((0, 1), 2)), True)
        for value in (((False, True), 2), ((0, True), 2), ((False, 1), 3), ([0, 1], 2), ((0, 1), None), ((0, 1), "2")):
            self.assertIs(circles.check_torn(mesh, value), False)
        self.assertIs(circles.check_clear(KITE, (((0, 2), True, 3),)), False)
        self.assertIs(circles.check_clear(KITE, (((False, 2), 1, 3),)), False)

    def test_flips_of_failing_edges_lead_to_clear_meshes(self):
        for mesh in TORN[:4]:
            for _ in range(200):
                paper = circles.torn_paper(mesh)
                if paper is None:
                    break
                self.assertTrue(can_flip(mesh, paper[0]) and not passes(mesh, paper[0]))
                mesh = flipped(mesh, paper[0])
            self.assertIs(circles.check_clear(mesh, circles.clear_paper(mesh)), True)
