"""[43] How flips change the energy of fields."""

from random import Random

from leastfield import lowering
from leastfield.energy import energy
from leastfield.errors import InvalidSize, Refused
from leastfield.flips import can_flip, flipped, new_edge, passes, settled, settling
from leastfield.meshes import borders_of, inner_edges
from leastfield.slopes import linear_field
from tests.checks import Checks
from tests.grown import ALL_GROWN, GROWN
from tests.samples import (ANY, FAN, FLAT, KITE, MANY_SMALL, MESHES, ONE, STEEP, circle_determinant, cross, frac, random_field,
                           random_frac, spoiled, worth_of)
from tests.test_flips import SHAKEN, four, shaken, spots

ALL = list(MESHES.values()) + MANY_SMALL[:4] + SHAKEN[5:14] + ALL_GROWN
FIELD = ((1, 1), (0, 1), (1, 1), (0, 1))
CALLS = (lowering.jump, lowering.energy_change)


def areas(mesh, edge):
    """P, Q, R and S by the words of [43]."""
    p, q, r, s = spots(mesh, edge)
    return cross(p, s, r), cross(q, r, s), cross(p, q, r), cross(q, p, s)


def jump_by_words(mesh, field, edge):
    first, second, third, fourth = areas(mesh, edge)
    p, q, r, s = [worth_of(field[k]) for k in four(mesh, edge)]
    return second * p + first * q - (fourth * r + third * s)


class Changes(Checks):
    def test_jumps_and_changes(self):
        random = Random(1)
        kinds = {}
        for mesh in ALL:
            field = random_field(random, mesh)
            for edge in inner_edges(mesh):
                if not can_flip(mesh, edge):
                    for call in CALLS:
                        self.raises(Refused, "turn", call, mesh, field, edge)
                    continue
                jump = jump_by_words(mesh, field, edge)
                self.same(lowering.jump(mesh, field, edge), frac(jump))
                product = 4
                for area in areas(mesh, edge):
                    product *= area
                change = -circle_determinant(*spots(mesh, edge)) * jump ** 2 / product
                self.same(lowering.energy_change(mesh, field, edge), frac(change))
                self.assertEqual(change, worth_of(energy(flipped(mesh, edge), field)) - worth_of(energy(mesh, field)))
                right = passes(mesh, edge)
                if not right:
                    self.assertLessEqual(change, 0)
                    self.assertEqual(change == 0, jump == 0)
                back = worth_of(lowering.energy_change(flipped(mesh, edge), field, new_edge(mesh, edge)))
                self.assertEqual(back, -change)
                kinds[right, change == 0] = kinds.get((right, change == 0), 0) + 1
        self.assertGreaterEqual(kinds[False, False], 20)
        self.assertGreaterEqual(kinds[True, False], 20)
        self.assertGreaterEqual(kinds[True, True], 5)

    def test_four_worths_in_one_plane(self):
        random = Random(2)
        for mesh in ALL:
            field = linear_field(mesh, *[random_frac(random) for _ in range(3)])
            for edge in inner_edges(mesh):
                if can_flip(mesh, edge):
                    for call in CALLS:
                        self.same(call(mesh, field, edge), (0, 1))

    def test_by_hand(self):
        self.same(lowering.jump(KITE, FIELD, (0, 2)), (8, 1))
        self.same(lowering.energy_change(KITE, FIELD, (0, 2)), (3, 2))
        self.same(lowering.jump(KITE, ((1, 1), (0, 1), (0, 1), (0, 1)), (0, 2)), (4, 1))
        self.same(lowering.jump(KITE, ((0, 1), (0, 1), (1, 2), (0, 1)), (0, 2)), (2, 1))
        self.same(lowering.jump(KITE, ((0, 1), (1, 1), (0, 1), (0, 1)), (0, 2)), (-4, 1))
        # P, Q, R and S are unlike here: 4, 8, 3 and 9, the low end nearer to the other diagonal.
        points = ((0, 1), (0, 1)), ((3, 1), (0, 1)), ((1, 1), (-3, 1)), ((1, 1), (1, 1))
        mesh = MESHES["flat"].__class__(points, ((0, 1, 3), (0, 2, 1)))
        units = [tuple((1, 1) if k == n else (0, 1) for k in range(4)) for n in range(4)]
        self.same([lowering.jump(mesh, unit, (0, 1)) for unit in units], [(8, 1), (4, 1), (-3, 1), (-9, 1)])


class Along(Checks):
    def test_energies_along(self):
        random = Random(3)
        for mesh in ALL:
            field = random_field(random, mesh)
            edges, expected, now = [], [energy(mesh, field)], mesh
            for _ in range(12):
                some = [edge for edge in inner_edges(now) if can_flip(now, edge)]
                if some:
                    edges.append(random.choice(some))
                    now = flipped(now, edges[-1])
                    expected.append(energy(now, field))
            self.same(lowering.energies_along(mesh, field, edges), tuple(expected))
            self.same(lowering.energies_along(mesh, field, tuple(edges)), tuple(expected))
            self.same(lowering.energies_along(mesh, field, ()), tuple(expected[:1]))

    def test_settling_never_raises(self):
        random = Random(4)
        many = 0
        for mesh in SHAKEN + ALL_GROWN:
            for _ in range(2):
                field = random_field(random, mesh)
                row = [worth_of(one) for one in lowering.energies_along(mesh, field, settling(mesh))]
                self.assertEqual(row, sorted(row, reverse=True))
                self.assertEqual(row[-1], worth_of(energy(settled(mesh), field)))
                many += len(row) - 1
        self.assertGreater(many, 100)

    def test_clear_meshes_have_the_least_energy(self):
        random = Random(5)
        for mesh in GROWN:
            clear = settled(mesh)
            for seed in range(3):
                other = shaken(clear, seed, 9)
                field = random_field(random, mesh)
                self.assertLessEqual(worth_of(energy(clear, field)), worth_of(energy(other, field)))

    def test_many_flips(self):
        random = Random(6)
        mesh = MESHES["bent two holes"]
        field = random_field(random, mesh)
        (edge, *_) = [edge for edge in inner_edges(mesh) if can_flip(mesh, edge)]
        other = new_edge(mesh, edge)
        row = lowering.energies_along(mesh, field, [edge, other] * 800)
        self.assertEqual(len(row), 1601)
        self.assertEqual(set(row[::2]), {energy(mesh, field)})
        self.assertEqual(set(row[1::2]), {energy(flipped(mesh, edge), field)})


class Errors(Checks):
    def test_no_edge(self):
        for mesh, field in ((KITE, FIELD), (FAN, FIELD + ((2, 3),))):
            for value in ANY + tuple(spoiled((0, 2))) + ((1, 0), (2, 0), (0, 99), (0, 0), (-1, 0), (True, 2), (False, 2)):
                if isinstance(value, tuple) and repr(value) in map(repr, inner_edges(mesh) + borders_of(mesh)):
                    continue
                for call in CALLS:
                    self.raises(InvalidSize, "edge", call, mesh, field, value)
                self.raises(InvalidSize, "edge", lowering.energies_along, mesh, field, [value])

    def test_border_and_turn(self):
        for mesh in (KITE, FAN, ONE):
            field = FIELD[:3] + FIELD[:len(mesh.points) - 3]
            for edge in borders_of(mesh):
                for call in CALLS:
                    self.raises(Refused, "border", call, mesh, field, edge)
                self.raises(Refused, "border", lowering.energies_along, mesh, field, (edge,))
        self.raises(Refused, "turn", lowering.jump, MESHES["dart"], FIELD, (0, 2))
        self.raises(Refused, "turn", lowering.energies_along, MESHES["dart"], FIELD, ((0, 2),))

    def test_as_they_come(self):
        along = lowering.energies_along
        self.raises(InvalidSize, "edge", along, KITE, FIELD, [(0, 2), (0, 2)])
        self.raises(InvalidSize, "edge", along, KITE, FIELD, [(1, 3), (0, 1)])
        self.raises(Refused, "border", along, KITE, FIELD, [(0, 2), (0, 1), None])
        self.same(along(KITE, FIELD, [(0, 2), (1, 3)]), ((1, 2), (2, 1), (1, 2)))
        self.same(along(STEEP, FIELD, [(2, 3)])[1], energy(FLAT, FIELD))
