"""[59] to [61] Streams."""

from fractions import Fraction
from random import Random

from leastfield import streams
from leastfield.energy import energy
from leastfield.errors import Refused
from leastfield.field import flows, least_field
from leastfield.meshes import border_rings, borders_of, counts, edges_of, inner_edges, mesh_of, triangle_at
from leastfield.weights import weight
from tests.checks import Checks
from tests.grown import ALL_GROWN, random_worths
from tests.samples import ANY, FAN, KITE, MANY_SMALL, MESHES, ONE, RING_MESH, at, frac, random_field, spoiled, worth_of
from tests.test_field import is_right_fraction

ALL = list(MESHES.values()) + MANY_SMALL[:3] + ALL_GROWN
TRAY = mesh_of((at(0, 0), at(2, 0), at(2, 1), at(0, 1)), ((0, 1, 2), (0, 2, 3)))


def flow_by_words(mesh, field, one, other):
    edge = (min(one, other), max(one, other))
    return worth_of(weight(mesh, edge)) * (worth_of(field[one]) - worth_of(field[other]))


def told_rings(random, mesh):
    """Told worths at all border points, so that no flow is anywhere else."""
    return tuple((k, frac(random.randint(-9, 9), random.randint(1, 4))) for k in sorted(sum(border_rings(mesh), ())))


def has_stream_worths(mesh, field):
    """Whether there are stream worths, by the words in italics of [60]."""
    out = flows(mesh, field)
    rings = border_rings(mesh)
    inner = [k for k in range(len(mesh.points)) if not any(k in ring for ring in rings)]
    return all(out[k] == (0, 1) for k in inner) and all(sum(worth_of(out[k]) for k in ring) == 0 for ring in rings[1:])


class Flows(Checks):
    def test_edges(self):
        random = Random(1)
        for mesh in ALL:
            field = random_field(random, mesh)
            expected = tuple((a, b, frac(flow_by_words(mesh, field, a, b))) for a, b in edges_of(mesh))
            self.same(streams.edge_flows(mesh, field), expected)
        self.same(streams.edge_flows(TRAY, ((0, 1), (1, 1), (1, 1), (0, 1))),
                  ((0, 1, (-1, 4)), (0, 2, (0, 1)), (0, 3, (0, 1)), (1, 2, (0, 1)), (2, 3, (1, 4))))

    def test_cuts(self):
        random = Random(2)
        for mesh in ALL:
            field = random_field(random, mesh)
            out = flows(mesh, field)
            for many in {0, 1, 2, len(mesh.points) // 2, len(mesh.points)}:
                some = random.sample(range(len(mesh.points)), many)
                expected = sum((flow_by_words(mesh, field, a, b) for one, other in edges_of(mesh)
                                for a, b in ((one, other), (other, one)) if a in some and b not in some), Fraction(0))
                self.same(streams.cut_flow(mesh, field, some), frac(expected))
                self.same(streams.cut_flow(mesh, field, tuple(some)), frac(expected))
                self.assertEqual(sum(worth_of(out[k]) for k in some), expected)
        self.same(streams.cut_flow(TRAY, ((0, 1), (1, 1), (1, 1), (0, 1)), [3, 0]), (-1, 2))

    def test_lots_with_the_same_told_points(self):
        random = Random(3)
        for mesh in ALL:
            worths = random_worths(random, mesh, random.randint(1, 3))
            least = least_field(mesh, worths)
            told = [k for k, _ in worths]
            free = [k for k in range(len(mesh.points)) if k not in told]
            for many in range(len(told) + 1):
                found = {streams.cut_flow(mesh, least, told[:many] + random.sample(free, random.randint(0, len(free))))
                         for _ in range(4)}
                self.assertEqual(len(found), 1)


class StreamWorths(Checks):
    def test_by_words(self):
        random = Random(4)
        seen = {}
        for mesh in ALL:
            fields = [random_field(random, mesh), least_field(mesh, told_rings(random, mesh)),
                      least_field(mesh, random_worths(random, mesh, 1 + len(mesh.points) // 9)), ((5, 3),) * len(mesh.points),
                      least_field(mesh, tuple((k, frac(k % 3, 2)) for k in sorted(border_rings(mesh)[0])))]
            for field in fields:
                right = has_stream_worths(mesh, field)
                key = (right, counts(mesh)[4] > 0)
                seen[key] = seen.get(key, 0) + 1
                if not right:
                    self.raises(Refused, "flow", streams.stream_worths, mesh, field)
                    continue
                found = streams.stream_worths(mesh, field)
                self.same(found[0], (0, 1))
                self.assertEqual(len(found), len(mesh.triangles))
                self.assertIs(streams.check_stream_worths(mesh, field, found), True)
                for a, b in inner_edges(mesh):
                    left, right = found[triangle_at(mesh, a, b)], found[triangle_at(mesh, b, a)]
                    self.assertEqual(worth_of(left) - worth_of(right), flow_by_words(mesh, field, a, b))
                for k in range(len(found)):
                    other = found[:k] + (frac(worth_of(found[k]) + 1),) + found[k + 1:]
                    self.assertIs(streams.check_stream_worths(mesh, field, other), False)
                more = tuple(frac(worth_of(one) + 1) for one in found)
                self.assertIs(streams.check_stream_worths(mesh, field, more), False)
        self.assertEqual(len(seen), 4)
        self.assertGreater(min(seen.values()), 4)

    def test_of_nothing_that_is_refused(self):
        random = Random(5)
        for mesh in (FAN, RING_MESH, MESHES["block"]):
            field = random_field(random, mesh)
            self.raises(Refused, "flow", streams.stream_worths, mesh, field)
            for _ in range(20):
                value = ((0, 1),) + tuple(frac(random.randint(-9, 9), 3) for _ in mesh.triangles[1:])
                self.assertIs(streams.check_stream_worths(mesh, field, value), False)

    def test_any_value(self):
        field = ((0, 1), (1, 1), (4, 1), (1, 3))
        right = streams.stream_worths(TRAY, field)
        self.assertIs(streams.check_stream_worths(TRAY, field, right), True)
        for value in ANY + tuple(spoiled(right)):
            expected = isinstance(value, tuple) and len(value) == 2 and all(is_right_fraction(one) for one in value) and value == right
            self.assertIs(streams.check_stream_worths(TRAY, field, value), expected, value)
        for value in ANY:
            right = isinstance(value, tuple) and len(value) == 1 and is_right_fraction(value[0]) and value[0] == (0, 1)
            self.assertIs(streams.check_stream_worths(ONE, field[:3], value), right)
        self.same(streams.stream_worths(ONE, field[:3]), ((0, 1),))
        self.assertIs(streams.check_stream_worths(ONE, field[:3], ((0, 1),)), True)
        self.assertIs(streams.check_stream_worths(ONE, field[:3], ((1, 1),)), False)
        self.assertIs(streams.check_stream_worths(ONE, field[:3], ((False, 1),)), False)


class Swirls(Checks):
    def swirl_by_words(self, mesh, f, g):
        total = Fraction(0)
        for a, b, c in mesh.triangles:
            total += (f[b] - f[a]) * (g[c] - g[a]) - (f[c] - f[a]) * (g[b] - g[a])
        return total / 2

    def round_by_words(self, mesh, f, g):
        total = Fraction(0)
        for a, b in borders_of(mesh):
            p, q = (a, b) if triangle_at(mesh, a, b) is not None else (b, a)
            total += (f[p] + f[q]) * (g[q] - g[p])
        return total / 2

    def test_swirls(self):
        random = Random(6)
        for mesh in ALL:
            for _ in range(2):
                field, other = random_field(random, mesh), random_field(random, mesh)
                f, g = [[worth_of(one) for one in row] for row in (field, other)]
                found = streams.swirl(mesh, field, other)
                self.same(found, frac(self.swirl_by_words(mesh, f, g)))
                self.same(streams.round_sum(mesh, field, other), frac(self.round_by_words(mesh, f, g)))
                self.same(streams.round_sum(mesh, field, other), found)
                self.assertLessEqual(worth_of(found) ** 2, 4 * worth_of(energy(mesh, field)) * worth_of(energy(mesh, other)))
                self.same(streams.swirl(mesh, other, field), frac(-worth_of(found)))
                self.same(streams.swirl(mesh, field, field), (0, 1))

    def test_by_hand(self):
        across, along = ((0, 1), (1, 1), (1, 1), (0, 1)), ((0, 1), (0, 1), (1, 1), (1, 1))
        self.same(streams.swirl(TRAY, across, along), (1, 1))
        self.same(streams.round_sum(TRAY, along, across), (-1, 1))
        self.same(streams.swirl(KITE, ((1, 1), (0, 1), (2, 1), (0, 1)), ((0, 1), (0, 1), (0, 1), (1, 2))), (1, 4))

    def test_only_the_border_counts(self):
        random = Random(7)
        for mesh in ALL:
            rings = sum(border_rings(mesh), ())
            field, other = random_field(random, mesh), random_field(random, mesh)
            changed = tuple(one if k in rings else (7, 3) for k, one in enumerate(field))
            self.same(streams.swirl(mesh, changed, other), streams.swirl(mesh, field, other))
