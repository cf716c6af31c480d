"""[65] Lumps."""

from fractions import Fraction
from random import Random

from leastfield import lumps as module
from leastfield.meshes import mesh_area
from tests.checks import Checks
from tests.grown import ALL_GROWN
from tests.samples import KITE, MANY_SMALL, MESHES, cross, frac, random_field, worth_of, xy

ALL = list(MESHES.values()) + MANY_SMALL[:3] + ALL_GROWN


def lumps_by_words(mesh):
    found = [Fraction(0)] * len(mesh.points)
    for triangle in mesh.triangles:
        area = Fraction(cross(*[xy(mesh.points[k]) for k in triangle])) / 2
        for k in triangle:
            found[k] += area / 3
    return found


class Lumps(Checks):
    def test_lumps(self):
        for mesh in ALL:
            expected = lumps_by_words(mesh)
            self.same(module.lumps(mesh), tuple(frac(one) for one in expected))
            self.assertEqual(2 * sum(expected), worth_of(mesh_area(mesh)))
        self.same(module.lumps(KITE), ((4, 3), (2, 3), (4, 3), (2, 3)))

    def test_warmth_and_gaps(self):
        random = Random(1)
        for mesh in ALL:
            field, other = random_field(random, mesh), random_field(random, mesh)
            row = lumps_by_words(mesh)
            warmth = sum(lump * worth_of(worth) for lump, worth in zip(row, field))
            self.same(module.warmth(mesh, field), frac(warmth))
            gap = sum(lump * (worth_of(one) - worth_of(two)) ** 2 for lump, one, two in zip(row, field, other))
            self.same(module.gap_square(mesh, field, other), frac(gap))
            self.same(module.gap_square(mesh, other, field), frac(gap))
            self.same(module.gap_square(mesh, field, field), (0, 1))
        self.same(module.warmth(KITE, ((1, 1), (0, 1), (1, 2), (-1, 1))), (4, 3))
        self.same(module.gap_square(KITE, ((1, 1), (0, 1), (1, 2), (0, 1)), ((0, 1),) * 4), (5, 3))
