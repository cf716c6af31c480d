"""[58] Feet of heights, until a mesh is calm."""

from random import Random

from leastfield import feet
from leastfield.bounds import is_calm, span_of
from leastfield.errors import InvalidSize, Refused
from leastfield.field import least_field
from leastfield.first import first_mesh
from leastfield.flips import failing, settled
from leastfield.meshes import Mesh, borders_of, plate_of
from leastfield.plates import Plate
from leastfield.putting import foot_on, put_in
from leastfield.weights import weights_of
from tests.checks import Checks
from tests.grown import ALL_GROWN, grown, random_worths
from tests.samples import (ANY, COMB, FAN, KITE, MANY_SMALL, MESHES, PLATES, RING, SPIRAL, SQUARE, STRAIGHT, THREE_HOLES, WINDOW,
                           at, spoiled, worth_of)

ALL = list(MESHES.values()) + MANY_SMALL[:3] + ALL_GROWN
WORK = Mesh((at(0, 0), at(4, 0), at(1, 1)), ((0, 1, 2),))
FLIGHT = Plate(((0, 0), (9, 0), (9, 2), (5, 2), (5, 6), (9, 6), (9, 9), (0, 9), (0, 5), (2, 5), (2, 3), (0, 3)),
               (((3, 7), (3, 8), (7, 8), (7, 7)),))
UPRIGHT = [SQUARE, WINDOW, STRAIGHT, COMB, SPIRAL, FLIGHT]
UPRIGHT_MESHES = [grown(plate, seed, 1 + seed % 5) for seed in range(3) for plate in UPRIGHT]


def wild_by_words(mesh, worths):
    told = dict(worths)
    return tuple((a, b) for a, b, much in weights_of(mesh)
                 if (a, b) in borders_of(mesh) and much[0] < 0 and not (a in told and b in told))


def calmed_by_words(mesh, worths, most):
    """The mesh with feet, one by one, None if there are more than most."""
    mesh = settled(mesh)
    for _ in range(most + 1):
        wild = wild_by_words(mesh, worths)
        if not wild:
            return mesh
        mesh = settled(put_in(mesh, foot_on(mesh, wild[0])))
    return None


class Upright(Checks):
    def test_plates(self):
        for plate in PLATES.values():
            expected = all(a[0] == b[0] or a[1] == b[1] for ring in (plate.outer,) + plate.holes
                           for a, b in zip(ring, ring[1:] + ring[:1]))
            self.assertIs(feet.is_upright(plate), expected)
        for plate in UPRIGHT:
            self.assertIs(feet.is_upright(plate), True)
        self.assertIs(feet.is_upright(RING), False)
        self.assertIs(feet.is_upright(THREE_HOLES), False)
        # The outer ring alone does not tell.
        self.assertIs(feet.is_upright(Plate(WINDOW.outer, (((1, 1), (1, 3), (3, 1)),))), False)
        self.assertIs(feet.is_upright(Plate(((0, 0), (4, 0), (4, 4), (1, 3)), ())), False)


class Wild(Checks):
    def test_by_words(self):
        random = Random(1)
        seen = {}
        for mesh in ALL + UPRIGHT_MESHES:
            for worths in (random_worths(random, mesh), random_worths(random, mesh, 1), tuple((k, (0, 1)) for k in range(len(mesh.points)))):
                expected = wild_by_words(mesh, worths)
                self.same(feet.wild_edges(mesh, worths), expected)
                seen[len(expected) > 0] = seen.get(len(expected) > 0, 0) + 1
        self.assertGreater(min(seen.values()), 20)

    def test_by_hand(self):
        self.same(feet.wild_edges(WORK, ((0, (0, 1)), (2, (1, 1)))), ((0, 1),))
        self.same(feet.wild_edges(WORK, ((0, (0, 1)), (1, (1, 1)))), ())
        self.same(feet.wild_edges(WORK, ((2, (1, 1)),)), ((0, 1),))
        self.same(feet.wild_edges(KITE, ((0, (0, 1)),)), ())


class Calmed(Checks):
    def test_by_words(self):
        random = Random(2)
        seen = {}
        for mesh in ALL + UPRIGHT_MESHES:
            worths = random_worths(random, mesh, random.randint(1, 3))
            for most in (0, 1, 3, 9):
                expected = calmed_by_words(mesh, worths, most)
                seen[expected is None] = seen.get(expected is None, 0) + 1
                if expected is None:
                    self.raises(Refused, "most", feet.calmed, mesh, worths, most)
                    continue
                found, told = feet.calmed(mesh, worths, most)
                self.same((found.points, found.triangles, told), (expected.points, expected.triangles, worths))
                self.assertIs(is_calm(found, worths), True)
                self.assertEqual(failing(found), ())
        self.assertGreater(min(seen.values()), 20)

    def test_just_enough(self):
        random = Random(3)
        needed = set()
        for mesh in UPRIGHT_MESHES:
            worths = random_worths(random, mesh, 2)
            many = len(feet.calmed(mesh, worths, 40)[0].points) - len(mesh.points)
            needed.add(many)
            self.assertEqual(feet.calmed(mesh, worths, many)[0], feet.calmed(mesh, worths, 40)[0])
            if many:
                self.raises(Refused, "most", feet.calmed, mesh, worths, many - 1)
        self.assertTrue({0, 1, 2} <= needed, needed)

    def test_by_hand(self):
        worths = ((0, (0, 1)), (2, (1, 1)))
        mesh, told = feet.calmed(WORK, worths, 1)
        self.same((mesh.points[3:], mesh.triangles, told), ((at(1, 0),), ((0, 3, 2), (1, 2, 3)), worths))
        self.raises(Refused, "most", feet.calmed, WORK, worths, 0)
        self.assertEqual(feet.calmed(WORK, ((0, (0, 1)), (1, (1, 1))), 0)[0], WORK)
        # It begins settled.
        self.assertEqual(feet.calmed(MESHES["steep"], ((0, (0, 1)),), 0)[0], MESHES["steep"].__class__(
            MESHES["steep"].points, settled(MESHES["steep"]).triangles))

    def test_worths_lie_in_the_span(self):
        random = Random(4)
        for mesh in UPRIGHT_MESHES:
            worths = random_worths(random, mesh, 3)
            low, high = [worth_of(one) for one in span_of(worths)]
            least = least_field(*feet.calmed(mesh, worths, 40))
            self.assertTrue(all(low <= worth_of(one) <= high for one in least))

    def test_upright_plates(self):
        random = Random(5)
        total = 0
        for mesh in UPRIGHT_MESHES:
            for worths in (random_worths(random, mesh, 1), random_worths(random, mesh, 3)):
                points = feet.calmed(mesh, worths, 40)[0].points
                total += len(points) - len(mesh.points)
                self.assertLessEqual(len(points) - len(mesh.points), feet.feet_bound(settled(mesh)))
                for k in range(len(mesh.points), len(points)):
                    x, y = points[k]
                    self.assertTrue(x in [p[0] for p in points[:k]] or y in [p[1] for p in points[:k]])
        self.assertGreater(total, 20)

    def test_other_plates(self):
        for plate in (RING, THREE_HOLES, PLATES["slanted"]):
            mesh = first_mesh(plate)
            try:
                found, _ = feet.calmed(mesh, ((0, (1, 1)),), 12)
            except Refused as refused:
                self.assertEqual(refused.word, "most")
                continue
            self.assertIs(is_calm(found, ((0, (1, 1)),)), True)

    def test_any_most(self):
        for value in ANY + (-1, 41, 100, 10 ** 30, True, False, None, (1, 1), "1", [1]):
            if type(value) is int and 0 <= value <= 40:
                continue
            self.raises(InvalidSize, "most", feet.calmed, WORK, ((2, (1, 1)),), value)
        for value in spoiled(1):
            self.raises(InvalidSize, "most", feet.calmed, WORK, ((2, (1, 1)),), value)
        self.assertEqual(len(feet.calmed(WORK, ((2, (1, 1)),), 40)[0].points), 4)


class Bounds(Checks):
    def test_by_words(self):
        for mesh in ALL + UPRIGHT_MESHES:
            plate = plate_of(mesh)
            lying, standing = set(), set()
            for ring in (plate.outer,) + plate.holes:
                for a, b in zip(ring, ring[1:] + ring[:1]):
                    if a[1] == b[1]:
                        lying.add(a[1])
                    if a[0] == b[0]:
                        standing.add(a[0])
            xs, ys = {x for x, _ in mesh.points}, {y for _, y in mesh.points}
            self.same(feet.feet_bound(mesh), len(xs) * len(lying) + len(ys) * len(standing))

    def test_by_hand(self):
        self.same(feet.feet_bound(FAN), 3 * 2 + 3 * 2)
        self.same(feet.feet_bound(WORK), 3)
        self.same(feet.feet_bound(KITE), 0)
        self.same(feet.feet_bound(MESHES["ring"]), 4 * 2 + 4 * 2)
