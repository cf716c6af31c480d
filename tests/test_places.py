"""[21] and [22] Places in meshes."""

from fractions import Fraction
from random import Random

from leastfield import places
from leastfield.errors import Refused
from tests.checks import Checks
from tests.samples import (ANY, FAN, MANY_SMALL, MESHES, RING_MESH, at, cross, frac, random_field, scalar, spoiled, worth_of,
                           xy)

ALL = list(MESHES.values()) + MANY_SMALL[:3]


def ways(triangle):
    a, b, c = triangle
    return [(a, b), (b, c), (c, a)]


def some_points(mesh, seed):
    """Points of all kinds: corners, on edges, within triangles, outside, and in holes."""
    random = Random(seed)
    spots = [xy(point) for point in mesh.points]
    for point in random.sample(mesh.points, min(4, len(spots))):
        yield point
    for triangle in random.sample(mesh.triangles, min(5, len(mesh.triangles))):
        a, b, c = [spots[k] for k in triangle]
        part = Fraction(random.randint(1, 6), 7)
        yield at(a[0] + part * (b[0] - a[0]), a[1] + part * (b[1] - a[1]))
        yield at(c[0] + part * (a[0] - c[0]), c[1] + part * (a[1] - c[1]))
        yield at((2 * a[0] + 3 * b[0] + c[0]) / Fraction(6), (2 * a[1] + 3 * b[1] + c[1]) / Fraction(6))
        yield at(2 * a[0] - b[0], 2 * a[1] - b[1])
    for _ in range(12):
        yield at(Fraction(random.randint(-5, 60), 3), Fraction(random.randint(-5, 60), 3))
    yield at(6, 6)
    yield at(-10 ** 29, Fraction(1, 10 ** 29))


def turns(mesh, triangle, point):
    return [cross(xy(mesh.points[a]), xy(mesh.points[b]), xy(point)) for a, b in ways(triangle)]


def holders(mesh, point):
    return [k for k, triangle in enumerate(mesh.triangles) if min(turns(mesh, triangle, point)) >= 0]


def parts(mesh, number, point):
    a, b, c = mesh.triangles[number]
    area = cross(xy(mesh.points[a]), xy(mesh.points[b]), xy(mesh.points[c]))
    ab, bc, ca = turns(mesh, mesh.triangles[number], point)
    return (frac(bc / area), frac(ca / area), frac(ab / area))


class Places(Checks):
    def place(self, mesh, point):
        if point in mesh.points:
            return ("corner", mesh.points.index(point))
        for triangle in mesh.triangles:
            for a, b in ways(triangle):
                p, q, r = xy(mesh.points[a]), xy(mesh.points[b]), xy(point)
                if cross(p, q, r) == 0 and scalar(r, p, q) < 0:
                    return ("edge", (min(a, b), max(a, b)))
        held = holders(mesh, point)
        return ("triangle", held[0]) if held else ("outside",)

    def test_places(self):
        kinds = set()
        for seed, mesh in enumerate(ALL):
            for point in some_points(mesh, seed):
                place = places.place_of(mesh, point)
                kinds.add(place[0])
                self.same(place, self.place(mesh, point))
        self.assertEqual(kinds, {"corner", "edge", "triangle", "outside"})
        self.same(places.place_of(RING_MESH, at(2, Fraction(3, 2))), ("outside",))
        self.same(places.place_of(RING_MESH, at(2, 1)), ("edge", (3, 5)))
        self.same(places.place_of(RING_MESH, at(1, 3)), ("corner", 4))

    def test_papers(self):
        for seed, mesh in enumerate(ALL):
            for point in some_points(mesh, seed + 50):
                held = holders(mesh, point)
                place = places.place_paper(mesh, point)
                outside = places.outside_paper(mesh, point)
                self.assertEqual(place is None, not held)
                self.assertEqual(outside is None, bool(held))
                if held:
                    self.same(place, (held[0], parts(mesh, held[0], point)))
                else:
                    first = tuple([turn < 0 for turn in turns(mesh, triangle, point)].index(True) for triangle in mesh.triangles)
                    self.same(outside, first)
                self.assertIs(places.check_place(mesh, point, place), bool(held))
                self.assertIs(places.check_outside(mesh, point, outside), not held)

    def test_all_right_place_papers(self):
        for seed, mesh in enumerate(ALL):
            for point in some_points(mesh, seed + 100):
                held = holders(mesh, point)
                for number in range(len(mesh.triangles)):
                    self.assertIs(places.check_place(mesh, point, (number, parts(mesh, number, point))), number in held)

    def test_all_right_outside_papers(self):
        random = Random(4)
        for mesh in ALL[:7]:
            for point in some_points(mesh, 7):
                right = [[k for k, turn in enumerate(turns(mesh, triangle, point)) if turn < 0] for triangle in mesh.triangles]
                for _ in range(8):
                    value = tuple(random.choice(ks or [0]) for ks in right)
                    if all(right):
                        self.assertIs(places.check_outside(mesh, point, value), True)
                    k = random.randrange(len(value))
                    for other in range(-3, 4):
                        changed = value[:k] + (other,) + value[k + 1:]
                        self.assertIs(places.check_outside(mesh, point, changed), all(right) and other in right[k])

    def test_wrong_papers(self):
        inside, outside = at(2, 1), at(5, 1)
        paper = (0, ((1, 8), (3, 8), (1, 2)))
        self.assertIs(places.check_place(FAN, inside, paper), True)
        for value in list(ANY) + list(spoiled(paper)) + [(-4, paper[1]), (4, paper[1]), (1, paper[1]), (False, paper[1]),
                                                         (0, ((1, 8), (1, 2), (3, 8))), (0, ((2, 16), (3, 8), (1, 2)))]:
            self.assertIs(places.check_place(FAN, inside, value), False, value)
            self.assertIs(places.check_place(FAN, outside, value), False)
        corner = (0, ((1, 1), (0, 1), (0, 1)))
        self.assertIs(places.check_place(FAN, at(0, 0), corner), True)
        self.assertIs(places.check_place(FAN, at(0, 0), (1, ((1, 1), (0, 1), (0, 1)))), True)
        for value in list(spoiled(corner)) + [(False, corner[1]), (True, corner[1]), (0, ((True, 1), (0, 1), (0, 1)))]:
            self.assertIs(places.check_place(FAN, at(0, 0), value), False)
        self.assertIs(places.check_outside(FAN, outside, (1, 0, 0, 2)), True)
        for value in list(ANY) + list(spoiled((1, 0, 0, 2))) + [(True, 0, 0, 2), (1, False, 0, 2), (1, 0, 0), (1, 0, 0, 2, 0)]:
            self.assertIs(places.check_outside(FAN, outside, value), False, value)
            self.assertIs(places.check_outside(FAN, inside, value), False)


class Fields(Checks):
    def test_worths(self):
        random = Random(12)
        for seed, mesh in enumerate(ALL):
            field = random_field(random, mesh)
            for point in some_points(mesh, seed + 200):
                held = holders(mesh, point)
                if not held:
                    self.raises(Refused, "outside", places.field_at, mesh, field, point)
                    continue
                worth = places.field_at(mesh, field, point)
                for number in held:
                    worths = [worth_of(field[k]) for k in mesh.triangles[number]]
                    total = sum(worth_of(part) * one for part, one in zip(parts(mesh, number, point), worths))
                    self.same(worth, frac(total))
                    self.assertTrue(min(worths) <= worth_of(worth) <= max(worths))

    def test_at_corners(self):
        random = Random(13)
        for mesh in ALL:
            field = random_field(random, mesh)
            self.same(tuple(places.field_at(mesh, field, point) for point in mesh.points), field)
