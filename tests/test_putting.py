"""[53] and [54] Further points."""

from fractions import Fraction
from random import Random

from leastfield import putting
from leastfield.energy import energy
from leastfield.errors import InvalidSize, Refused
from leastfield.flips import failing
from leastfield.meshes import Mesh, borders_of, edges_of, inner_edges, is_mesh, mesh_area, plate_of
from leastfield.places import field_at, place_of
from leastfield.weights import weight, weights_of
from tests.checks import Checks
from tests.samples import (ANY, FAN, FLAT, KITE, MANY_SMALL, MESHES, ONE, RING_MESH, at, cross, frac, random_field, rotated,
                           scalar, spoiled, worth_of, xy)
from tests.test_places import some_points

ALL = list(MESHES.values()) + MANY_SMALL[:4]
WORK = Mesh((at(0, 0), at(4, 0), at(1, 1)), ((0, 1, 2),))


def third_of(mesh, edge):
    """The corner opposite to a border edge."""
    (triangle,) = [triangle for triangle in mesh.triangles if edge[0] in triangle and edge[1] in triangle]
    (third,) = set(triangle) - set(edge)
    return third


class Putting(Checks):
    def put_by_words(self, mesh, point):
        number = len(mesh.points)
        triangles = []
        for a, b, c in mesh.triangles:
            areas = [cross(xy(mesh.points[p]), xy(mesh.points[q]), xy(point)) for p, q in ((a, b), (b, c), (c, a))]
            if min(areas) < 0:
                triangles.append((a, b, c))
            else:
                triangles += [rotated((p, q, number)) for (p, q), area in zip(((a, b), (b, c), (c, a)), areas) if area]
        return Mesh(mesh.points + (point,), tuple(sorted(triangles)))

    def test_put_in(self):
        random = Random(1)
        kinds = {}
        for seed, mesh in enumerate(ALL):
            field = random_field(random, mesh)
            for point in some_points(mesh, seed + 300):
                kind = place_of(mesh, point)[0]
                kinds[kind] = kinds.get(kind, 0) + 1
                if kind in ("corner", "outside"):
                    self.raises(Refused, kind, putting.put_in, mesh, point)
                    continue
                done = putting.put_in(mesh, point)
                expected = self.put_by_words(mesh, point)
                self.same(done.points, expected.points)
                self.same(done.triangles, expected.triangles)
                self.assertTrue(is_mesh(done))
                self.assertEqual(plate_of(done), plate_of(mesh))
                longer = putting.field_put(mesh, field, point)
                self.same(energy(done, longer), energy(mesh, field))
                for other in list(some_points(mesh, seed))[4:10]:
                    if place_of(mesh, other) != ("outside",):
                        self.same(field_at(done, longer, other), field_at(mesh, field, other))
        self.assertGreater(min(kinds.values()), 20)

    def test_how_many_triangles(self):
        self.same(putting.put_in(WORK, at(2, 0)).triangles, ((0, 3, 2), (1, 2, 3)))
        self.same(putting.put_in(WORK, at(1, Fraction(1, 2))).triangles, ((0, 1, 3), (0, 3, 2), (1, 2, 3)))
        self.same(putting.put_in(KITE, at(0, 0)).triangles, ((0, 1, 4), (0, 4, 3), (1, 2, 4), (2, 3, 4)))
        self.raises(Refused, "outside", putting.put_in, RING_MESH, at(2, Fraction(3, 2)))
        self.raises(Refused, "corner", putting.put_in, RING_MESH, at(1, 3))

    def test_field_put(self):
        random = Random(2)
        for seed, mesh in enumerate(ALL):
            field = random_field(random, mesh)
            for point in some_points(mesh, seed + 400):
                if place_of(mesh, point) == ("outside",):
                    self.raises(Refused, "outside", putting.field_put, mesh, field, point)
                else:
                    self.same(putting.field_put(mesh, field, point), field + (field_at(mesh, field, point),))


class Quartering(Checks):
    def test_quartered(self):
        for mesh in ALL:
            done = putting.quartered(mesh)
            edges = edges_of(mesh)
            spots = [xy(point) for point in mesh.points]
            middles = [at((spots[a][0] + spots[b][0]) / 2, (spots[a][1] + spots[b][1]) / 2) for a, b in edges]
            self.same(done.points, mesh.points + tuple(middles))
            number = {edge: len(mesh.points) + k for k, edge in enumerate(edges)}
            number.update({edge[::-1]: k for edge, k in number.items()})
            expected = []
            for a, b, c in mesh.triangles:
                ab, bc, ca = number[(a, b)], number[(b, c)], number[(c, a)]
                expected += [rotated(t) for t in ((a, ab, ca), (ab, b, bc), (ca, bc, c), (ab, bc, ca))]
            self.same(done.triangles, tuple(sorted(expected)))
            self.assertEqual(mesh_area(done), mesh_area(mesh))
        for mesh in ALL[:8]:
            done = putting.quartered(mesh)
            self.assertTrue(is_mesh(done))
            self.assertEqual(plate_of(done), plate_of(mesh))

    def test_weights_behind(self):
        for mesh in ALL:
            done = putting.quartered(mesh)
            heavy = {(a, b): much for a, b, much in weights_of(done)}
            number = {edge: len(mesh.points) + k for k, edge in enumerate(edges_of(mesh))}
            for k, (a, b) in enumerate(edges_of(mesh)):
                half = len(mesh.points) + k
                self.same(heavy[(a, half)], weight(mesh, (a, b)))
                self.same(heavy[(b, half)], weight(mesh, (a, b)))
            for triangle in mesh.triangles:
                for k in range(3):
                    a, b, c = triangle[k:] + triangle[:k]
                    between = tuple(sorted(number[tuple(sorted(edge))] for edge in ((a, b), (a, c))))
                    p, q, r = [xy(mesh.points[n]) for n in (a, b, c)]
                    self.same(heavy[between], frac(Fraction(scalar(p, q, r)) / cross(p, q, r)))
        self.same(putting.quartered(WORK).triangles, ((0, 3, 4), (1, 5, 3), (2, 4, 5), (3, 5, 4)))

    def test_without_obtuse_angles_it_passes(self):
        for mesh in (KITE, MESHES["block"], MESHES["two holes"], MESHES["frame"]):
            self.same(failing(putting.quartered(mesh)), ())


class Where(Checks):
    def test_middles(self):
        for mesh in ALL:
            for a, b in edges_of(mesh):
                (x, y), (r, u) = xy(mesh.points[a]), xy(mesh.points[b])
                self.same(putting.middle_of(mesh, (a, b)), at((x + r) / 2, (y + u) / 2))

    def test_centres(self):
        for mesh in ALL:
            for number, triangle in enumerate(mesh.triangles):
                corners = [xy(mesh.points[k]) for k in triangle]
                self.same(putting.centre_of(mesh, number), at(*[sum(p[i] for p in corners) / 3 for i in (0, 1)]))
                centre = xy(putting.circle_centre_of(mesh, number))
                self.assertEqual(len({scalar(centre, p, p) for p in corners}), 1)
        self.same(putting.circle_centre_of(WORK, 0), at(2, -1))

    def test_feet(self):
        seen = set()
        for mesh in ALL + [FLAT, ONE, Mesh((at(0, 0), at(4, 0), at(0, 3)), ((0, 1, 2),)),
                           Mesh((at(0, 0), at(4, 0), at(6, 3)), ((0, 1, 2),))]:
            for a, b in borders_of(mesh):
                p, q, r = xy(mesh.points[a]), xy(mesh.points[b]), xy(mesh.points[third_of(mesh, (a, b))])
                part = Fraction(scalar(p, q, r)) / scalar(p, q, q)
                seen.add((part > 0) - (part < 0) + (part > 1) + (part >= 1))
                if 0 < part < 1:
                    foot = at(p[0] + part * (q[0] - p[0]), p[1] + part * (q[1] - p[1]))
                    self.same(putting.foot_on(mesh, (a, b)), foot)
                else:
                    self.raises(Refused, "foot", putting.foot_on, mesh, (a, b))
            for edge in inner_edges(mesh):
                self.raises(Refused, "inner", putting.foot_on, mesh, edge)
        self.assertEqual(seen, {-1, 0, 1, 2, 3})
        self.same(putting.foot_on(WORK, (0, 1)), at(1, 0))

    def test_no_edge(self):
        for mesh in (FAN, KITE):
            for value in ANY + tuple(spoiled((0, 1))) + ((1, 0), (4, 0), (0, 99), (0, 0), (-1, 0), (True, 2), (False, 1)):
                if repr(value) in [repr(edge) for edge in edges_of(mesh)]:
                    continue
                self.raises(InvalidSize, "edge", putting.middle_of, mesh, value)
                self.raises(InvalidSize, "edge", putting.foot_on, mesh, value)

    def test_no_number(self):
        for mesh in (FAN, ONE):
            many = len(mesh.triangles)
            for value in ANY + (many, many + 1, -many, -1, (0,), [0], "0", True, False):
                if isinstance(value, int) and not isinstance(value, bool) and 0 <= value < many:
                    continue
                self.raises(InvalidSize, "number", putting.centre_of, mesh, value)
                self.raises(InvalidSize, "number", putting.circle_centre_of, mesh, value)
            self.same(len(putting.centre_of(mesh, many - 1)), 2)
        self.assertEqual(worth_of(putting.centre_of(ONE, 0)[0]), Fraction(5, 3))
        self.same(putting.centre_of(ONE, 0), (frac(5, 3), frac(1, 3)))
