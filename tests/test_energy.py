"""[41] and [42] Energy."""

from fractions import Fraction
from random import Random

from leastfield import energy
from leastfield.meshes import borders_of, mesh_area
from leastfield.slopes import linear_field
from tests.checks import Checks
from tests.samples import KITE, MANY_SMALL, MESHES, frac, random_field, random_frac, worth_of
from tests.test_flips import SHAKEN
from tests.test_weights import weight_by_words
from leastfield.meshes import edges_of

ALL = list(MESHES.values()) + MANY_SMALL + SHAKEN


def added(field, other):
    return tuple(frac(worth_of(one) + worth_of(another)) for one, another in zip(field, other))


class Energies(Checks):
    def test_by_words(self):
        random = Random(1)
        for mesh in ALL:
            f, g = random_field(random, mesh), random_field(random, mesh)
            weights = {edge: weight_by_words(mesh, edge) for edge in edges_of(mesh)}
            mixed = sum(much * (worth_of(f[a]) - worth_of(f[b])) * (worth_of(g[a]) - worth_of(g[b]))
                        for (a, b), much in weights.items())
            alone = sum(much * (worth_of(f[a]) - worth_of(f[b])) ** 2 for (a, b), much in weights.items()) / 2
            self.same(energy.mixed_energy(mesh, f, g), frac(mixed))
            self.same(energy.mixed_energy(mesh, g, f), frac(mixed))
            self.same(energy.energy(mesh, f), frac(alone))

    def test_by_edges_and_by_triangles(self):
        random = Random(2)
        for mesh in ALL:
            field = random_field(random, mesh)
            much = energy.energy(mesh, field)
            self.same(energy.energy_by_triangles(mesh, field), much)
            self.assertGreater(worth_of(much), 0)
            still = (random_frac(random),) * len(mesh.points)
            self.same(energy.energy(mesh, still), (0, 1))
            self.same(energy.energy_by_triangles(mesh, still), (0, 1))

    def test_sums(self):
        random = Random(3)
        for mesh in ALL:
            f, g = random_field(random, mesh), random_field(random, mesh)
            whole = worth_of(energy.energy(mesh, added(f, g)))
            self.assertEqual(whole, sum(worth_of(one) for one in (energy.energy(mesh, f), energy.energy(mesh, g),
                                                                  energy.mixed_energy(mesh, f, g))))

    def test_unit_fields(self):
        for mesh in ALL[:6]:
            for k in range(len(mesh.points)):
                unit = energy.unit_field(mesh, k)
                self.same(unit, tuple((1, 1) if n == k else (0, 1) for n in range(len(mesh.points))))

    def test_linear_fields(self):
        random = Random(4)
        for mesh in ALL:
            start, right, up = [random_frac(random) for _ in range(3)]
            field = linear_field(mesh, start, right, up)
            border = {k for edge in borders_of(mesh) for k in edge}
            for k in range(len(mesh.points)):
                if k not in border:
                    self.same(energy.mixed_energy(mesh, field, energy.unit_field(mesh, k)), (0, 1))
            area = worth_of(mesh_area(mesh)) / 2
            self.same(energy.energy(mesh, field), frac((worth_of(right) ** 2 + worth_of(up) ** 2) * area / 2))

    def test_known_ones(self):
        field = ((1, 1), (0, 1), (1, 1), (0, 1))
        self.same(energy.energy(KITE, field), (1, 2))
        self.same(energy.energy_by_triangles(KITE, field), (1, 2))
        self.same(energy.mixed_energy(KITE, field, energy.unit_field(KITE, 1)), (-1, 2))
        self.same(energy.mixed_energy(KITE, field, field), frac(Fraction(1)))
