"""[29] to [32] Flips."""

from random import Random

from leastfield import flips
from leastfield.errors import InvalidSize, Refused
from leastfield.meshes import Mesh, borders_of, edges_of, inner_edges, is_mesh, mesh_of, plate_of
from leastfield.points import circle_centre
from tests.checks import Checks
from tests.samples import (ANY, DART_MESH, FAN, FLAT, KITE, MANY_SMALL, MESHES, STEEP, at, block, circle_determinant, cross,
                           frac, grid_mesh, rotated, scalar, sign, spoiled, worth_of, xy)

ALL = list(MESHES.values()) + MANY_SMALL
EDGE_CALLS = (flips.bulge, flips.new_edge, flips.flipped)


def four(mesh, edge):
    """The numbers of the ends of an edge and of the corners opposite, left and right."""
    found = {}
    for a, b, c in mesh.triangles:
        for one, other, third in ((a, b, c), (b, c, a), (c, a, b)):
            found[(one, other)] = third
    return edge[0], edge[1], found[edge], found[edge[::-1]]


def spots(mesh, edge):
    return [xy(mesh.points[k]) for k in four(mesh, edge)]


def convex(mesh, edge):
    a, b, c, d = spots(mesh, edge)
    return cross(c, d, a) * cross(c, d, b) < 0 and cross(a, b, c) * cross(a, b, d) < 0


def by_hand(mesh, edge):
    """The flipped mesh, written down from [30]."""
    a, b, c, d = four(mesh, edge)
    gone = [triangle for triangle in mesh.triangles if a in triangle and b in triangle]
    kept = [triangle for triangle in mesh.triangles if triangle not in gone]
    return Mesh(mesh.points, tuple(sorted(kept + [rotated((c, d, b)), rotated((d, c, a))])))


def shaken(mesh, seed, many=40):
    """A mesh behind some flips of edges taken at random."""
    random = Random(seed)
    for _ in range(many):
        some = [edge for edge in inner_edges(mesh) if convex(mesh, edge)]
        if some:
            mesh = by_hand(mesh, random.choice(some))
    return mesh


SHAKEN = [shaken(mesh, seed) for seed, mesh in enumerate(ALL)]


def lift_at(mesh, point):
    """The lift at a point, by going through all triangles."""
    x, y = xy(point)
    for triangle in mesh.triangles:
        corners = [xy(mesh.points[k]) for k in triangle]
        area = cross(*corners)
        parts = [cross(corners[(k + 1) % 3], corners[(k + 2) % 3], (x, y)) / area for k in range(3)]
        if min(parts) >= 0:
            return sum(part * (p[0] ** 2 + p[1] ** 2) for part, p in zip(parts, corners))


class Bulges(Checks):
    def test_bulges(self):
        for mesh in ALL + SHAKEN:
            wrong = []
            for edge in inner_edges(mesh):
                number = circle_determinant(*spots(mesh, edge))
                self.same(flips.bulge(mesh, edge), frac(number))
                self.assertIs(flips.passes(mesh, edge), number <= 0)
                if number > 0:
                    wrong.append(edge)
                a, b, c, d = spots(mesh, edge)
                self.assertEqual(sign(number), sign(circle_determinant(b, a, d, c)))
            self.same(flips.failing(mesh), tuple(wrong))
        self.assertTrue(any(flips.failing(mesh) for mesh in ALL))

    def test_within_both_circles(self):
        for mesh in ALL + SHAKEN:
            for edge in inner_edges(mesh):
                a, b, c, d = [mesh.points[k] for k in four(mesh, edge)]
                inside = []
                for three, other in (((a, b, c), d), ((b, a, d), c)):
                    centre = xy(circle_centre(*three))
                    inside.append(scalar(centre, xy(other), xy(other)) < scalar(centre, xy(a), xy(a)))
                self.assertEqual(inside, [not flips.passes(mesh, edge)] * 2)

    def test_border_edges_pass(self):
        for mesh in ALL:
            for edge in borders_of(mesh):
                self.assertIs(flips.passes(mesh, edge), True)
                self.assertIs(flips.can_flip(mesh, edge), False)
                for call in EDGE_CALLS:
                    self.raises(Refused, "border", call, mesh, edge)
                self.raises(Refused, "border", flips.run_flips, mesh, (edge,))

    def test_no_edge(self):
        for mesh in (FAN, KITE, FLAT):
            for value in ANY + tuple(spoiled((0, 1))) + ((1, 0), (4, 0), (0, 99), (0, 0), (-1, 0), (True, 2), (False, 1)):
                if isinstance(value, tuple) and value in edges_of(mesh) and not any(isinstance(k, bool) for k in value):
                    continue
                for call in EDGE_CALLS + (flips.passes, flips.can_flip):
                    self.raises(InvalidSize, "edge", call, mesh, value)
                self.raises(InvalidSize, "edge", flips.run_flips, mesh, [value])

    def test_one_circle_passes(self):
        cell = MESHES["cell"]
        (edge,) = inner_edges(cell)
        self.same(flips.bulge(cell, edge), (0, 1))
        self.assertIs(flips.passes(cell, edge), True)
        self.same(flips.failing(cell), ())


class Turning(Checks):
    def test_flips(self):
        for mesh in ALL + SHAKEN:
            for edge in inner_edges(mesh):
                right = convex(mesh, edge)
                self.assertIs(flips.can_flip(mesh, edge), right)
                if not right:
                    self.assertTrue(flips.passes(mesh, edge))
                    for call in (flips.new_edge, flips.flipped):
                        self.raises(Refused, "turn", call, mesh, edge)
                    self.raises(Refused, "turn", flips.run_flips, mesh, [edge])
                    continue
                _, _, c, d = four(mesh, edge)
                new = (min(c, d), max(c, d))
                other = flips.flipped(mesh, edge)
                self.same(flips.new_edge(mesh, edge), new)
                self.same(other.triangles, by_hand(mesh, edge).triangles)
                self.same(other.points, mesh.points)
                self.assertEqual(flips.flipped(other, new), mesh)
                self.assertTrue(flips.passes(mesh, edge) or flips.passes(other, new))
                both = flips.passes(mesh, edge) and flips.passes(other, new)
                self.assertEqual(both, flips.bulge(mesh, edge) == (0, 1))
                self.same(worth_of(flips.lift_sum(mesh)) - worth_of(flips.lift_sum(other)), worth_of(flips.bulge(mesh, edge)))

    def test_flipped_meshes_are_meshes(self):
        for mesh, other in zip(ALL, SHAKEN):
            self.assertTrue(is_mesh(other))
            self.assertEqual(plate_of(other), plate_of(mesh))
            for edge in [edge for edge in inner_edges(mesh) if convex(mesh, edge)][:4]:
                self.assertTrue(is_mesh(flips.flipped(mesh, edge)))

    def test_straight_quads_do_not_flip(self):
        mesh = mesh_of((at(0, 0), at(4, 0), at(2, 3), at(2, 0)), ((0, 3, 2), (3, 1, 2)))
        self.assertIs(flips.can_flip(mesh, (2, 3)), False)
        self.raises(Refused, "turn", flips.flipped, mesh, (2, 3))
        self.assertIs(flips.can_flip(DART_MESH, (0, 2)), False)
        self.raises(Refused, "turn", flips.new_edge, DART_MESH, (0, 2))

    def test_runs(self):
        random = Random(8)
        for mesh in ALL[:10]:
            row, last = [], mesh
            for _ in range(25):
                some = [edge for edge in inner_edges(last) if convex(last, edge)]
                if some:
                    row.append(random.choice(some))
                    last = by_hand(last, row[-1])
            self.assertEqual(flips.run_flips(mesh, row), last)
            self.assertEqual(flips.run_flips(mesh, tuple(row)), last)
            self.assertEqual(flips.run_flips(mesh, ()), mesh)
            self.raises(InvalidSize, "edge", flips.run_flips, mesh, row + [None])
            if row:
                # The last one that was flipped is no edge any more.
                self.raises(InvalidSize, "edge", flips.run_flips, mesh, row + [row[-1]])
                self.raises(Refused, "border", flips.run_flips, mesh, row + [borders_of(mesh)[0], None])
        self.raises(InvalidSize, "edge", flips.run_flips, FLAT, [(0, 1), (0, 1)])
        self.assertEqual(flips.run_flips(FLAT, [(0, 1), (2, 3)]), FLAT)
        self.assertEqual(flips.flipped(FLAT, (0, 1)), STEEP)

    def test_long_rows(self):
        mesh = MESHES["block"]
        edge = [edge for edge in inner_edges(mesh) if convex(mesh, edge)][0]
        row = [edge, flips.new_edge(mesh, edge)] * 800
        self.assertEqual(flips.run_flips(mesh, row), mesh)


class Lifts(Checks):
    def test_sums(self):
        for mesh in ALL + SHAKEN:
            total = 0
            for triangle in mesh.triangles:
                corners = [xy(mesh.points[k]) for k in triangle]
                total += cross(*corners) * sum(x * x + y * y for x, y in corners)
            self.same(flips.lift_sum(mesh), frac(total))

    def test_flips_of_failing_edges_lower_the_lift(self):
        for mesh in MANY_SMALL + SHAKEN[:8]:
            for edge in flips.failing(mesh):
                other = flips.flipped(mesh, edge)
                a, b, c, d = spots(mesh, edge)
                part = cross(c, d, a) / (cross(c, d, a) - cross(c, d, b))
                meeting = at(a[0] + part * (b[0] - a[0]), a[1] + part * (b[1] - a[1]))
                self.assertLess(lift_at(other, meeting), lift_at(mesh, meeting))
                for triangle in mesh.triangles + other.triangles:
                    p = [sum(xy(mesh.points[k])[i] for k in triangle) / 3 for i in (0, 1)]
                    self.assertLessEqual(lift_at(other, at(*p)), lift_at(mesh, at(*p)))


class Settling(Checks):
    def one_by_one(self, mesh):
        row = []
        while flips.failing(mesh):
            row.append(flips.failing(mesh)[0])
            mesh = by_hand(mesh, row[-1])
        return tuple(row), mesh

    def test_the_least_one_first(self):
        longest = 0
        for mesh in ALL + SHAKEN:
            row, last = self.one_by_one(mesh)
            longest = max(longest, len(row))
            self.same(flips.settling(mesh), row)
            self.assertEqual(flips.run_flips(mesh, row), last)
            self.assertEqual(len(set(row)), len(row))
            many = len(mesh.points)
            self.assertLessEqual(len(row), many * (many - 1) // 2)
            for k, edge in enumerate(row):
                self.assertNotIn(edge, edges_of(flips.run_flips(mesh, row[:k + 1])))
        self.assertGreater(longest, 10)

    def cells_by_hand(self, mesh):
        lots = [{k} for k in range(len(mesh.triangles))]
        for edge in inner_edges(mesh):
            if circle_determinant(*spots(mesh, edge)) == 0:
                a, b, c, d = four(mesh, edge)
                left, right = [lot for k in (c, d) for lot in lots
                               if any(set(mesh.triangles[n]) == {a, b, k} for n in lot)]
                if left is not right:
                    left |= right
                    lots = [lot for lot in lots if lot is not right]
        return tuple(sorted(tuple(sorted({k for n in lot for k in mesh.triangles[n]})) for lot in lots))

    def test_cells(self):
        for mesh in ALL + SHAKEN:
            self.same(flips.cells(mesh), self.cells_by_hand(mesh))
        self.same(flips.cells(KITE), ((0, 1, 2), (0, 2, 3)))
        self.same(flips.cells(MESHES["cell"]), ((0, 1, 2, 3),))
        self.assertEqual(len(flips.cells(flips.settled(MESHES["block"]))), 9)

    def test_settled(self):
        for mesh in ALL + SHAKEN:
            done = flips.settled(mesh)
            self.assertTrue(is_mesh(done))
            self.same(done.points, mesh.points)
            self.assertEqual(plate_of(done), plate_of(mesh))
            self.same(flips.failing(done), ())
            self.same(flips.settling(done), ())
            self.assertEqual(flips.settled(done), done)
            behind = flips.run_flips(mesh, flips.settling(mesh))
            self.same(flips.cells(done), flips.cells(behind))
            expected = []
            for cell in flips.cells(behind):
                inner = [t for t in behind.triangles if set(t) <= set(cell)]
                sides = [way for t in inner for way in zip(t, t[1:] + t[:1])]
                ring = [way for way in sides if way[::-1] not in sides and cell[0] not in way]
                expected += [rotated((cell[0],) + way) for way in ring]
            self.same(done.triangles, tuple(sorted(expected)))

    def test_all_ways_end_at_one_mesh(self):
        for mesh, other in zip(ALL, SHAKEN):
            self.assertEqual(flips.settled(mesh), flips.settled(other))
            self.assertEqual(flips.lift_sum(flips.settled(mesh)), flips.lift_sum(flips.run_flips(mesh, flips.settling(mesh))))

    def test_wheels_of_one_circle(self):
        wheel = (at(5, 0), at(-3, 4), at(4, 3), at(-5, 0), at(0, 5), at(3, 4), at(-4, -3), at(0, -5))
        order = (3, 6, 7, 0, 2, 5, 4, 1)
        fan = mesh_of(wheel, [(order[0], one, other) for one, other in zip(order[1:], order[2:])])
        done = flips.settled(fan)
        self.same(flips.cells(fan), (tuple(range(8)),))
        self.same(done, mesh_of(wheel, ((0, 2, 5), (0, 5, 4), (0, 4, 1), (0, 1, 3), (0, 3, 6), (0, 6, 7))))

    def same(self, value, other):
        if isinstance(value, Mesh):
            value, other = (value.points, value.triangles), (other.points, other.triangles)
        Checks.same(self, value, other)

    def test_a_lattice(self):
        for seed in range(4):
            mesh = grid_mesh(block(3, 2), seed, shuffled=True)
            done = flips.settled(mesh)
            self.assertEqual(len(flips.cells(mesh)), 6)
            for cell in flips.cells(mesh):
                self.assertEqual(sum(cell[0] in t and set(t) <= set(cell) for t in done.triangles), 2)
