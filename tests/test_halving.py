"""[57] Longest edges halved."""

from fractions import Fraction
from random import Random

from leastfield import halving
from leastfield.errors import InvalidSize
from leastfield.meshes import edges_of, is_mesh, mesh_area, plate_of
from leastfield.putting import put_in
from tests.checks import Checks
from tests.grown import GROWN
from tests.samples import ANY, FAN, KITE, MANY_SMALL, MESHES, ONE, at, frac, scalar, spoiled, worth_of, xy
from tests.test_field import is_right_fraction

ALL = list(MESHES.values()) + MANY_SMALL[:3] + GROWN


def squares(mesh):
    """The squared length of each edge."""
    found = {}
    for a, b in edges_of(mesh):
        p, q = xy(mesh.points[a]), xy(mesh.points[b])
        found[a, b] = Fraction(scalar(p, q, q))
    return found


def longest(mesh):
    table = squares(mesh)
    return min(edge for edge in table if table[edge] == max(table.values()))


def bound_by_words(mesh, size):
    total = 0
    for square in squares(mesh).values():
        k = 0
        while square * Fraction(3, 4) ** k > size:
            k += 1
        total += sum(4 ** n for n in range(k))
    return total


def sizes(mesh):
    """Sizes above and below the longest edges, and just as long."""
    row = sorted(squares(mesh).values())
    for size in (row[-1] * 2, row[-1], row[-1] - Fraction(1, 1000), row[len(row) // 2], row[-1] / 2):
        yield size


class Halving(Checks):
    def test_longest_edge(self):
        for mesh in ALL:
            self.same(halving.longest_edge(mesh), longest(mesh))
        self.same(halving.longest_edge(FAN), (0, 1))
        self.same(halving.longest_edge(KITE), (0, 1))
        self.same(halving.longest_edge(ONE), (0, 1))
        self.same(halving.longest_edge(MESHES["dart"]), (0, 1))

    def test_by_words(self):
        long_rows = 0
        for mesh in ALL:
            for size in sizes(mesh):
                now, points = mesh, []
                while max(squares(now).values()) > size and len(now.points) < 40:
                    a, b = longest(now)
                    p, q = xy(now.points[a]), xy(now.points[b])
                    points.append(at((p[0] + q[0]) / 2, (p[1] + q[1]) / 2))
                    before = max(squares(now).values())
                    old = squares(now)
                    now = put_in(now, points[-1])
                    self.assertTrue(all(much <= before * Fraction(3, 4) for edge, much in squares(now).items() if edge not in old))
                if max(squares(now).values()) > size:
                    continue
                self.same(halving.halvings(mesh, frac(size)), tuple(points))
                behind = halving.halved(mesh, frac(size))
                self.same((behind.points, behind.triangles), (now.points, now.triangles))
                self.assertEqual(behind.points, mesh.points + tuple(points))
                self.assertLessEqual(len(points), halving.halvings_bound(mesh, frac(size)))
                long_rows += len(points) > 3
        self.assertGreater(long_rows, 10)

    def test_what_is_behind_is_a_mesh(self):
        for mesh in ALL[::4]:
            size = frac(max(squares(mesh).values()) * Fraction(3, 5))
            behind = halving.halved(mesh, size)
            self.assertTrue(is_mesh(behind))
            self.assertEqual(plate_of(behind), plate_of(mesh))
            self.assertEqual(mesh_area(behind), mesh_area(mesh))
            self.assertLessEqual(max(squares(behind).values()), worth_of(size))

    def test_bounds(self):
        for mesh in ALL:
            for size in list(sizes(mesh)) + [max(squares(mesh).values()) / 9]:
                self.same(halving.halvings_bound(mesh, frac(size)), bound_by_words(mesh, size))
        # The squares are 16, 10 and 2; 16 times 3/4, three times, is 27/4.
        self.same([halving.halvings_bound(ONE, size) for size in ((16, 1), (12, 1), (9, 1), (27, 4), (6, 1))], [0, 1, 6, 26, 90])

    def test_by_hand(self):
        self.same(halving.halvings(ONE, (16, 1)), ())
        self.assertEqual(halving.halved(ONE, (16, 1)), ONE)
        self.same(halving.halvings(ONE, (12, 1)), (at(2, 0),))
        self.same(halving.halvings(ONE, (9, 1)), (at(2, 0), at(Fraction(5, 2), Fraction(1, 2))))
        # Nothing is settled: both halves of a long edge keep the third corner.
        self.same(halving.halved(ONE, (12, 1)).triangles, ((0, 3, 2), (1, 2, 3)))

    def test_any_size(self):
        for call in (halving.halvings, halving.halved, halving.halvings_bound):
            for value in ANY + tuple(spoiled((20, 1))) + ((0, 1), (-1, 2), (-20, 1), (40, 2), 20, "20"):
                if is_right_fraction(value) and value[0] > 0:
                    continue
                self.raises(InvalidSize, "size", call, ONE, value)

    def test_to_forty_points(self):
        random = Random(1)
        mesh = MESHES["ring"]
        size = max(squares(mesh).values())
        while len(halving.halved(mesh, frac(size)).points) < 25:
            size = size * Fraction(random.randint(6, 9), 10)
        self.assertLessEqual(len(halving.halvings(mesh, frac(size))), halving.halvings_bound(mesh, frac(size)))
