"""[35] and [36] Meshes that are alike; [31] and [32] once more."""

from fractions import Fraction
from random import Random

from leastfield import ways
from leastfield.errors import Refused
from leastfield.flips import can_flip, cells, failing, flipped, lift_sum, new_edge, passes, run_flips, settled, settling
from leastfield.meshes import Mesh, borders_of, inner_edges, renumbered
from leastfield.places import place_of
from leastfield.points import crossing_point
from tests.checks import Checks
from tests.grown import GROWN, TORN, grown
from tests.samples import (COMB, DART_MESH, FAN, FLAT, KITE, MANY_SMALL, MESHES, RING_MESH, STEEP, STRAIGHT, TWO_HOLES, WINDOW, at,
                           block, cross, frac, grid_mesh, scalar, worth_of, xy)
from tests.test_flips import lift_at, shaken, spots
from tests.test_places import some_points

ALL = list(MESHES.values()) + MANY_SMALL[:4] + GROWN + TORN
# Many corners on few circles: so there are large cells.
ROUND = [grid_mesh(block(3, 3), 1), grid_mesh(block(4, 2), 2), grid_mesh(block(3, 3, [(1, 1)]), 3),
         Mesh(tuple(at(x, y) for x, y in ((5, 0), (4, 3), (3, 4), (0, 5), (-3, 4), (-4, 3), (-5, 0), (0, -5))),
              ((0, 1, 7), (1, 2, 7), (2, 3, 7), (3, 4, 7), (4, 5, 7), (5, 6, 7)))]


def sharpest_by_words(mesh):
    rows = []
    for a, b, c in mesh.triangles:
        for p, q, r in ((a, b, c), (b, c, a), (c, a, b)):
            x, y, z = [xy(mesh.points[k]) for k in (p, q, r)]
            rows.append(Fraction(scalar(x, y, z)) / cross(x, y, z))
    return max(rows)


class Alike(Checks):
    def test_flips_keep_it(self):
        for seed, mesh in enumerate(ALL):
            self.assertIs(ways.alike(mesh, mesh), True)
            self.assertIs(ways.alike(mesh, shaken(mesh, seed, 5)), True)
            self.assertIs(ways.alike(settled(mesh), mesh), True)

    def test_settled_ones_are_equal_exactly_if_alike(self):
        some = [mesh for mesh in ALL if len(mesh.points) < 9]
        seen = set()
        for mesh in some:
            for other in some + [shaken(mesh, 3, 4)]:
                found = ways.alike(mesh, other)
                seen.add(found)
                self.assertIs(found, mesh.points == other.points and borders_of(mesh) == borders_of(other))
                self.assertIs(settled(mesh) == settled(other), found)
        self.assertEqual(seen, {True, False})

    def test_by_hand(self):
        self.assertIs(ways.alike(STEEP, FLAT), True)
        self.assertIs(ways.alike(FLAT, KITE), False)
        # The same points in another order, and the same points with a bay filled.
        self.assertIs(ways.alike(FLAT, renumbered(FLAT, (1, 0, 2, 3))), False)
        full = Mesh(DART_MESH.points, DART_MESH.triangles + ((1, 3, 2),))
        self.assertIs(ways.alike(DART_MESH, full), False)


class Lifts(Checks):
    def test_by_words(self):
        for seed, mesh in enumerate(ALL):
            for point in some_points(mesh, seed + 700):
                if place_of(mesh, point) == ("outside",):
                    self.raises(Refused, "outside", ways.lift_at, mesh, point)
                else:
                    self.same(ways.lift_at(mesh, point), frac(lift_at(mesh, point)))
        self.same(ways.lift_at(FLAT, at(0, 0)), (1, 1))
        self.same(ways.lift_at(STEEP, at(0, 0)), (3, 1))

    def test_a_flip_lowers_the_lift(self):
        flips = 0
        for seed, mesh in enumerate(ALL):
            points = [point for point in some_points(mesh, seed + 800) if place_of(mesh, point) != ("outside",)]
            for edge in failing(mesh):
                other = flipped(mesh, edge)
                flips += 1
                for point in points:
                    self.assertLessEqual(worth_of(ways.lift_at(other, point)), worth_of(ways.lift_at(mesh, point)))
                a, b, c, d = [at(*spot) for spot in spots(mesh, edge)]
                middle = crossing_point(a, b, c, d)
                self.assertLess(worth_of(ways.lift_at(other, middle)), worth_of(ways.lift_at(mesh, middle)))
        self.assertGreater(flips, 50)

    def test_clear_meshes_have_the_least_lift(self):
        for seed, mesh in enumerate(ALL):
            clear = settled(mesh)
            for other in (mesh, shaken(clear, seed, 7)):
                for point in some_points(clear, seed + 900):
                    if place_of(clear, point) != ("outside",):
                        self.assertLessEqual(worth_of(ways.lift_at(clear, point)), worth_of(ways.lift_at(other, point)))
                least = worth_of(lift_sum(clear)) == worth_of(lift_sum(other))
                self.assertIs(least, not failing(other))
                if least:
                    self.same(cells(other), cells(clear))


class Sharpest(Checks):
    def test_by_words(self):
        for mesh in ALL + ROUND:
            self.same(ways.sharpest(mesh), frac(sharpest_by_words(mesh)))
        self.same((ways.sharpest(STEEP), ways.sharpest(FLAT)), ((3, 1), (4, 3)))

    def test_settling_never_raises_it(self):
        for mesh in ALL + ROUND:
            row, now = [worth_of(ways.sharpest(mesh))], mesh
            for edge in settling(mesh):
                now = flipped(now, edge)
                row.append(worth_of(ways.sharpest(now)))
            self.assertEqual(row, sorted(row, reverse=True))
            # It stays by flips within cells.
            self.assertEqual(worth_of(ways.sharpest(settled(mesh))), row[-1])

    def test_settled_meshes_have_the_least(self):
        for seed, mesh in enumerate(ALL):
            for k in range(3):
                other = shaken(mesh, seed + k, 4 + k)
                self.assertLessEqual(worth_of(ways.sharpest(settled(mesh))), worth_of(ways.sharpest(other)))


class Ways(Checks):
    def check(self, mesh, other):
        found = ways.way_between(mesh, other)
        self.assertIsInstance(found, tuple)
        for edge in found:
            self.assertTrue(type(edge) is tuple and len(edge) == 2 and edge[0] < edge[1])
        many = len(mesh.points)
        self.assertLessEqual(len(found), many * (many - 1))
        self.assertEqual(run_flips(mesh, found), other)
        return len(found)

    def test_from_each_to_each(self):
        longest = 0
        for seed, mesh in enumerate(ALL + ROUND):
            others = [mesh, settled(mesh), shaken(mesh, seed, 3), shaken(mesh, seed + 1, 20)]
            for one in others:
                for other in others:
                    longest = max(longest, self.check(one, other))
        self.assertGreater(longest, 12)

    def test_within_cells(self):
        for seed, mesh in enumerate(ROUND):
            self.assertTrue(any(len(cell) > 3 for cell in cells(settled(mesh))))
            row = [settled(mesh)]
            for _ in range(6):
                for edge in inner_edges(row[-1]):
                    if can_flip(row[-1], edge) and passes(row[-1], edge):
                        other = flipped(row[-1], edge)
                        if passes(other, new_edge(row[-1], edge)):
                            row.append(other)
                            break
            for one in row:
                self.check(one, row[0])
                self.check(row[0], one)
                self.check(one, row[-1])
        self.assertEqual(len(cells(settled(ROUND[3]))), 1)

    def test_many_points(self):
        for seed, plate in enumerate((WINDOW, TWO_HOLES, COMB, STRAIGHT)):
            mesh = grown(plate, seed, 40 - len(grown(plate, seed, 0).points))
            self.assertEqual(len(mesh.points), 40)
            self.check(mesh, shaken(mesh, seed, 25))

    def test_not_alike(self):
        for mesh, other in ((FLAT, KITE), (FLAT, renumbered(FLAT, (1, 0, 2, 3))), (FAN, RING_MESH),
                            (DART_MESH, Mesh(DART_MESH.points, DART_MESH.triangles + ((1, 3, 2),)))):
            self.raises(Refused, "alike", ways.way_between, mesh, other)
            self.raises(Refused, "alike", ways.way_between, other, mesh)
        self.same(ways.way_between(FAN, FAN), ())
        self.same(ways.way_between(STEEP, FLAT), ((2, 3),))
        self.same(ways.way_between(FLAT, STEEP), ((0, 1),))


class Settling(Checks):
    def test_edges_that_went_never_come_back(self):
        for seed, mesh in enumerate(ALL + ROUND):
            other = shaken(mesh, seed + 50, 30)
            done = settling(other)
            many = len(other.points)
            self.assertEqual(len(set(done)), len(done))
            self.assertLessEqual(len(done), many * (many - 1) // 2)
            now = other
            for edge in done:
                self.assertEqual(edge, failing(now)[0])
                now = flipped(now, edge)
                self.assertNotIn(edge, inner_edges(now))
            self.assertEqual(failing(now), ())
            self.assertEqual(set(done) & set(inner_edges(settled(other))), set())
