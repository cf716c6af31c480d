"""[72] Layers."""

from fractions import Fraction
from random import Random

from leastfield import layers
from leastfield.energy import energy
from leastfield.field import flows, least_field
from leastfield.levels import gates, high_points
from leastfield.lines import closed_lines, open_lines
from leastfield.lumps import warmth
from leastfield.meshes import mesh_area
from leastfield.weights import weight
from tests.checks import Checks
from tests.grown import ALL_GROWN, random_worths
from tests.samples import FAN, KITE, MANY_SMALL, MESHES, cross, frac, random_field, worth_of, xy
from tests.test_levels import some_cases, some_fields, some_levels

ALL = list(MESHES.values()) + MANY_SMALL[:4] + ALL_GROWN
TENT = ((0, 1),) * 4 + ((4, 1),)


def flow_by_words(mesh, field, line):
    return sum((worth_of(weight(mesh, tuple(sorted(gate)))) * (worth_of(field[gate[0]]) - worth_of(field[gate[1]])) for gate in line),
               Fraction(0))


def clipped(corners, worths, level):
    """The polygon of a triangle's part on which worths are not below a level, corner by corner."""
    found = []
    for k in range(3):
        p, q, a, b = corners[k], corners[(k + 1) % 3], worths[k], worths[(k + 1) % 3]
        if a >= level:
            found.append(p)
        if (a >= level) != (b >= level):
            part = (level - a) / (b - a)
            found.append((p[0] + part * (q[0] - p[0]), p[1] + part * (q[1] - p[1])))
    return found


def area_by_words(mesh, field, level):
    total = Fraction(0)
    for triangle in mesh.triangles:
        ring = clipped([xy(mesh.points[k]) for k in triangle], [worth_of(field[k]) for k in triangle], worth_of(level))
        total += sum((cross(ring[0], p, q) for p, q in zip(ring[1:], ring[2:])), Fraction(0))
    return total / 2


def worths_in(field):
    return sorted({worth_of(one) for one in field})


class Flows(Checks):
    def test_lines(self):
        for mesh, field, level in some_cases(1):
            for line in open_lines(mesh, field, level) + closed_lines(mesh, field, level):
                self.same(layers.line_flow(mesh, field, line), frac(flow_by_words(mesh, field, line)))
                self.same(layers.line_flow(mesh, field, list(line)), frac(flow_by_words(mesh, field, line)))
            found = layers.flow_over(mesh, field, level)
            self.same(found, frac(flow_by_words(mesh, field, gates(mesh, field, level))))
            out = flows(mesh, field)
            self.assertEqual(worth_of(found), sum(worth_of(out[k]) for k in high_points(mesh, field, level)))
        self.same(layers.line_flow(FAN, TENT, ()), (0, 1))

    def test_the_same_between_told_worths(self):
        random = Random(2)
        for mesh in ALL:
            worths = random_worths(random, mesh, random.randint(1, 4))
            field = least_field(mesh, worths)
            told = sorted({worth_of(one) for _, one in worths})
            levels = sorted(worth_of(level) for level in some_levels(random, field) + some_levels(random, field))
            for low, high in zip(levels, levels[1:]):
                if not any(low <= one < high for one in told):
                    self.same(layers.flow_over(mesh, field, frac(low)), layers.flow_over(mesh, field, frac(high)))

    def test_ladder(self):
        random = Random(3)
        for mesh in ALL:
            for field in some_fields(random, mesh):
                row = worths_in(field)
                expected = tuple((frac(low), frac(high), frac(flow_by_words(mesh, field, gates(mesh, field, frac(high)))))
                                 for low, high in zip(row, row[1:]))
                found = layers.ladder(mesh, field)
                self.same(found, expected)
                half = sum(((worth_of(high) - worth_of(low)) * worth_of(much) for low, high, much in found), Fraction(0)) / 2
                self.same(frac(half), energy(mesh, field))
        self.same(layers.ladder(FAN, ((5, 2),) * 5), ())
        self.same(layers.ladder(KITE, ((1, 2), (1, 3), (1, 2), (-1, 1))), (((-1, 1), (1, 3), (3, 4)), ((1, 3), (1, 2), (5, 6))))

    def test_the_ladder_of_told_worths_is_enough(self):
        random = Random(4)
        for mesh in ALL:
            worths = random_worths(random, mesh)
            field = least_field(mesh, worths)
            row = sorted({worth_of(one) for _, one in worths})
            total = sum(((high - low) * worth_of(layers.flow_over(mesh, field, frac(high))) for low, high in zip(row, row[1:])), Fraction(0))
            self.same(frac(total / 2), energy(mesh, field))


class Areas(Checks):
    def test_area_above(self):
        for mesh, field, level in some_cases(5):
            self.same(layers.area_above(mesh, field, level), frac(area_by_words(mesh, field, level)))

    def test_by_hand(self):
        self.same(layers.area_above(KITE, ((0, 1), (1, 1), (0, 1), (1, 1)), (1, 2)), (1, 1))
        self.same(layers.area_above(KITE, ((0, 1), (1, 1), (0, 1), (1, 1)), (1, 1)), (0, 1))
        self.same(layers.area_above(KITE, ((0, 1), (1, 1), (0, 1), (1, 1)), (0, 1)), (4, 1))
        # Where the field is flat, all of a triangle is at the level.
        self.same(layers.area_above(KITE, ((1, 1), (1, 1), (1, 1), (0, 1)), (1, 1)), (2, 1))
        self.same(layers.area_above(KITE, ((1, 1), (1, 1), (1, 1), (2, 1)), (1, 1)), (4, 1))
        self.same(layers.area_above(KITE, ((1, 1),) * 4, (9, 8)), (0, 1))

    def test_layers_sum(self):
        random = Random(6)
        for mesh in ALL:
            for field in some_fields(random, mesh):
                row = worths_in(field)
                total = Fraction(0)
                for low, high in zip(row, row[1:]):
                    first, second, third = [area_by_words(mesh, field, frac(low + part * (high - low) / 4)) for part in (1, 2, 3)]
                    total += (high - low) / 3 * (2 * first - second + 2 * third)
                found = layers.layers_sum(mesh, field)
                self.same(found, frac(total))
                self.assertEqual(total, worth_of(warmth(mesh, field)) - row[0] * worth_of(mesh_area(mesh)) / 2)
        self.same(layers.layers_sum(FAN, ((5, 2),) * 5), (0, 1))

    def test_fields_of_least_energy(self):
        random = Random(7)
        for mesh in ALL[:12]:
            field = least_field(mesh, random_worths(random, mesh, 3))
            least = worths_in(field)[0]
            self.assertEqual(worth_of(layers.layers_sum(mesh, field)),
                             worth_of(warmth(mesh, field)) - least * worth_of(mesh_area(mesh)) / 2)
        self.assertEqual(len(random_field(random, FAN)), 5)
