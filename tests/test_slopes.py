"""[39] and [40] Slopes."""

from fractions import Fraction
from random import Random

from leastfield import slopes
from tests.checks import Checks
from tests.samples import KITE, MANY_SMALL, MESHES, cross, frac, random_field, random_frac, scalar, worth_of, xy

ALL = list(MESHES.values()) + MANY_SMALL


class Slopes(Checks):
    def test_slopes_give_the_worths_again(self):
        random = Random(1)
        for mesh in ALL:
            field = random_field(random, mesh)
            for number, triangle in enumerate(mesh.triangles):
                found = slopes.slope(mesh, number, field)
                right, up = [worth_of(one) for one in found]
                self.same(found, (frac(right), frac(up)))
                (x, y), first = xy(mesh.points[triangle[0]]), worth_of(field[triangle[0]])
                for k in triangle[1:]:
                    r, u = xy(mesh.points[k])
                    self.assertEqual(first + right * (r - x) + up * (u - y), worth_of(field[k]))

    def test_linear_fields(self):
        random = Random(2)
        for mesh in ALL:
            start, right, up = [random_frac(random) for _ in range(3)]
            field = slopes.linear_field(mesh, start, right, up)
            expected = [worth_of(start) + worth_of(right) * x + worth_of(up) * y for x, y in map(xy, mesh.points)]
            self.same(field, tuple(frac(one) for one in expected))
            for number in range(len(mesh.triangles)):
                self.same(slopes.slope(mesh, number, field), (right, up))

    def test_energies(self):
        random = Random(3)
        for mesh in ALL:
            field = random_field(random, mesh)
            for number, triangle in enumerate(mesh.triangles):
                right, up = [worth_of(one) for one in slopes.slope(mesh, number, field)]
                corners = [xy(mesh.points[k]) for k in triangle]
                area = Fraction(cross(*corners)) / 2
                much = slopes.triangle_energy(mesh, number, field)
                self.same(much, frac((right * right + up * up) * area / 2))
                total = 0
                for k in range(3):
                    a, b, c = corners[k:] + corners[:k]
                    rise = worth_of(field[triangle[(k + 1) % 3]]) - worth_of(field[triangle[(k + 2) % 3]])
                    total += Fraction(scalar(a, b, c)) / cross(a, b, c) * rise * rise
                self.assertEqual(total / 4, worth_of(much))

    def test_known_ones(self):
        field = ((1, 1), (0, 1), (1, 1), (0, 1))
        self.same(slopes.slope(KITE, 0, field), ((0, 1), (1, 2)))
        self.same(slopes.slope(KITE, 1, field), ((0, 1), (-1, 2)))
        self.same(slopes.triangle_energy(KITE, 0, field), (1, 4))
        self.same(slopes.triangle_energy(KITE, 0, ((3, 1),) * 4), (0, 1))
