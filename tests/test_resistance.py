"""[64] Resistances."""

from fractions import Fraction
from random import Random

from leastfield import resistance as module
from leastfield.energy import energy
from leastfield.field import flows
from leastfield.networks import network_of
from leastfield.weights import weights_of
from tests.checks import Checks
from tests.grown import ALL_GROWN, CLEAR
from tests.nets import flow_out, solved
from tests.samples import FAN, KITE, MANY_SMALL, MESHES, ONE, at, block, frac, grid_mesh, random_field, worth_of

ALL = [mesh for mesh in list(MESHES.values()) + MANY_SMALL[:2] + ALL_GROWN if len(mesh.points) <= 20]
TRAY = grid_mesh(block(1, 1), 0).__class__((at(0, 0), at(2, 0), at(2, 1), at(0, 1)), ((0, 1, 2), (0, 2, 3)))


def conductance_by_words(mesh, source, drain):
    """By rows of equations of Python's own fractions."""
    network = network_of(mesh)
    told = [(k, (1, 1)) for k in source] + [(k, (0, 1)) for k in drain]
    worths = solved(network, told)
    return sum(flow_out(network, worths, k) for k in source)


def two_lots(random, mesh):
    """Two lots of unlike points, neither empty."""
    numbers = random.sample(range(len(mesh.points)), random.randint(2, len(mesh.points)))
    cut = random.randint(1, len(numbers) - 1)
    return numbers[:cut], numbers[cut:]


class Conductances(Checks):
    def test_by_words(self):
        random = Random(1)
        for mesh in ALL:
            for _ in range(3):
                source, drain = two_lots(random, mesh)
                found = module.conductance(mesh, source, drain)
                self.same(found, frac(conductance_by_words(mesh, source, drain)))
                self.same(module.conductance(mesh, tuple(source), tuple(drain)), found)
                self.same(module.conductance(mesh, drain, source), found)
                self.assertGreater(found[0], 0)

    def test_more_points_never_lower_it(self):
        random = Random(2)
        for mesh in ALL:
            source, drain = two_lots(random, mesh)
            little, least = source[:random.randint(1, len(source))], drain[:random.randint(1, len(drain))]
            self.assertLessEqual(worth_of(module.conductance(mesh, little, least)), worth_of(module.conductance(mesh, source, drain)))

    def test_by_hand(self):
        self.same(module.conductance(TRAY, (0, 3), (2, 1)), (1, 2))
        self.same(module.conductance(TRAY, [0, 1], [2, 3]), (2, 1))


class Resistances(Checks):
    def test_of_pairs(self):
        random = Random(3)
        for mesh in ALL:
            table = module.resistances(mesh)
            numbers = range(len(mesh.points))
            self.assertEqual([len(row) for row in table], [len(mesh.points)] * len(mesh.points))
            for _ in range(5):
                one, other = random.choice(numbers), random.choice(numbers)
                expected = (0, 1) if one == other else frac(1 / conductance_by_words(mesh, [one], [other]))
                self.same(module.resistance(mesh, one, other), expected)
                self.same(table[one][other], expected)
            for one in numbers:
                self.same(table[one][one], (0, 1))
                for other in numbers:
                    self.same(table[one][other], table[other][one])
                    self.assertTrue(one == other or table[one][other][0] > 0)

    def test_all_of_them(self):
        for mesh in (FAN, KITE, ONE, MESHES["ring"], MESHES["steep"]):
            numbers = range(len(mesh.points))
            expected = tuple(tuple(module.resistance(mesh, one, other) for other in numbers) for one in numbers)
            self.same(module.resistances(mesh), expected)

    def test_by_hand(self):
        self.same(module.resistance(TRAY, 0, 2), (5, 2))
        self.same(module.resistance(TRAY, 3, 3), (0, 1))
        self.same(module.potential(TRAY, 1, 3), ((1, 2), (5, 2), (2, 1), (0, 1)))

    def test_weights_times_resistances(self):
        for mesh in ALL:
            table = module.resistances(mesh)
            total = sum(worth_of(much) * worth_of(table[a][b]) for a, b, much in weights_of(mesh))
            self.assertEqual(total, len(mesh.points) - 1)

    def test_energy_of_any_field(self):
        random = Random(4)
        for mesh in ALL:
            field = random_field(random, mesh)
            out = [worth_of(one) for one in flows(mesh, field)]
            table = module.resistances(mesh)
            total = sum(worth_of(table[a][b]) * out[a] * out[b] for b in range(len(out)) for a in range(b))
            self.assertEqual(-total / 2, worth_of(energy(mesh, field)))

    def test_ways_round_are_longer(self):
        seen = 0
        for mesh in ALL + CLEAR:
            if len(mesh.points) > 20 or any(much[0] < 0 for _, _, much in weights_of(mesh)):
                continue
            seen += 1
            table = [[worth_of(one) for one in row] for row in module.resistances(mesh)]
            for row in table:
                for k, one in enumerate(row):
                    self.assertTrue(all(one <= row[n] + table[n][k] for n in range(len(row))))
        self.assertGreater(seen, 3)


class Potentials(Checks):
    def test_by_words(self):
        random = Random(5)
        for mesh in ALL:
            one, other = random.sample(range(len(mesh.points)), 2)
            field = module.potential(mesh, one, other)
            self.same(field[other], (0, 1))
            self.same(field[one], module.resistance(mesh, one, other))
            expected = {one: (1, 1), other: (-1, 1)}
            self.same(flows(mesh, field), tuple(expected.get(k, (0, 1)) for k in range(len(mesh.points))))

    def test_source_and_meter_change_places(self):
        random = Random(6)
        for mesh in ALL:
            for _ in range(3):
                (a, b), (c, d) = [random.sample(range(len(mesh.points)), 2) for _ in range(2)]
                one, other = module.potential(mesh, a, b), module.potential(mesh, c, d)
                self.assertEqual(worth_of(other[a]) - worth_of(other[b]), worth_of(one[c]) - worth_of(one[d]))


class Limits(Checks):
    def test_long_coordinates(self):
        mesh = grid_mesh(block(3, 3), 3)
        random = Random(7)
        far = 10 ** 12 - 1
        points = []
        for x, y in mesh.points:
            move = [Fraction(random.randint(1, far // 9), far - random.randint(0, 9)) for _ in range(2)]
            points.append(at(worth_of(x) + move[0], worth_of(y) + move[1]) if (x[0] in (4, 8) and y[0] in (4, 8)) else (x, y))
        mesh = mesh.__class__(tuple(points), mesh.triangles)
        table = module.resistances(mesh)
        total = sum(worth_of(much) * worth_of(table[a][b]) for a, b, much in weights_of(mesh))
        self.assertEqual(total, 15)
