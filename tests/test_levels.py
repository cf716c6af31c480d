"""[70] Levels, gates and regions."""

from random import Random

from leastfield import levels
from leastfield.meshes import edges_of
from tests.checks import Checks
from tests.grown import ALL_GROWN
from tests.samples import FAN, KITE, MANY_SMALL, MESHES, RING_MESH, at, frac, random_field, worth_of, xy

ALL = list(MESHES.values()) + MANY_SMALL + ALL_GROWN
FIELD = ((0, 1), (4, 1), (8, 1), (0, 1), (2, 1))


def some_fields(random, mesh):
    """Fields with unlike worths, with few ones, and with one alone."""
    yield random_field(random, mesh)
    yield tuple(frac(random.randint(0, 2)) for _ in mesh.points)
    yield ((1, 2),) * len(mesh.points)


def some_levels(random, field):
    """Worths of a field, levels between them, below all and above all."""
    worths = sorted({worth_of(one) for one in field})
    between = [(a + b) / 2 for a, b in zip(worths, worths[1:])]
    some = random.sample(worths, min(2, len(worths))) + random.sample(between, min(2, len(between)))
    return [frac(one) for one in some + [worths[0], worths[-1], worths[0] - 1, worths[-1] + 1]]


def some_cases(seed, meshes=ALL):
    random = Random(seed)
    for mesh in meshes:
        for field in some_fields(random, mesh):
            for level in some_levels(random, field):
                yield mesh, field, level


class Levels(Checks):
    def test_high_points_and_gates(self):
        for mesh, field, level in some_cases(1):
            high = [k for k in range(len(mesh.points)) if worth_of(field[k]) >= worth_of(level)]
            self.same(levels.high_points(mesh, field, level), tuple(high))
            both = [pair for edge in edges_of(mesh) for pair in (edge, edge[::-1])]
            gates = tuple(sorted(pair for pair in both if pair[0] in high and pair[1] not in high))
            self.same(levels.gates(mesh, field, level), gates)

    def test_by_hand(self):
        self.same(levels.high_points(FAN, FIELD, (2, 1)), (1, 2, 4))
        self.same(levels.gates(FAN, FIELD, (2, 1)), ((1, 0), (2, 3), (4, 0), (4, 3)))
        self.same(levels.high_points(FAN, FIELD, (5, 2)), (1, 2))
        self.same(levels.gates(FAN, FIELD, (9, 1)), ())
        self.same(levels.high_points(FAN, FIELD, (0, 1)), (0, 1, 2, 3, 4))
        self.same(levels.gates(FAN, FIELD, (0, 1)), ())
        self.same(levels.regions(FAN, FIELD, (2, 1)), ((0, 3), (1, 2, 4)))
        self.same(levels.regions(FAN, FIELD, (9, 1)), ((0, 1, 2, 3, 4),))
        self.same(levels.regions(KITE, ((0, 1), (1, 1), (0, 1), (1, 1)), (1, 1)), ((0, 2), (1,), (3,)))
        self.same(levels.gate_point(FAN, FIELD, (2, 1), (4, 0)), at(1, 2))
        self.same(levels.gate_point(FAN, FIELD, (1, 1), (4, 0)), (frac(1, 2), frac(1)))
        self.same(levels.gate_point(FAN, FIELD, (1, 1), (1, 0)), at(1, 0))

    def test_gate_points(self):
        for mesh, field, level in some_cases(2):
            for high, low in levels.gates(mesh, field, level):
                found = levels.gate_point(mesh, field, level, (high, low))
                a, b = worth_of(field[high]), worth_of(field[low])
                part = (a - worth_of(level)) / (a - b)
                (x, y), (r, u) = xy(mesh.points[high]), xy(mesh.points[low])
                self.same(found, at(x + part * (r - x), y + part * (u - y)))

    def lots(self, mesh, field, level):
        lots = [{k} for k in range(len(mesh.points))]
        gates = {frozenset(gate) for gate in levels.gates(mesh, field, level)}
        for edge in edges_of(mesh):
            if frozenset(edge) not in gates:
                one, other = [lot for k in edge for lot in lots if k in lot]
                if one is not other:
                    lots = [lot for lot in lots if lot is not other]
                    one |= other
        return tuple(sorted(tuple(sorted(lot)) for lot in lots))

    def test_regions(self):
        many = set()
        for mesh, field, level in some_cases(3):
            expected = self.lots(mesh, field, level)
            many.add(len(expected))
            self.same(levels.regions(mesh, field, level), expected)
        self.assertTrue({1, 2, 3, 4} <= many)
        self.same(levels.regions(RING_MESH, ((0, 1),) * 3 + ((1, 1),) * 3, (1, 1)), ((0, 1, 2), (3, 4, 5)))
