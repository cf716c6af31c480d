"""[26] and [27] Partings and first meshes."""

from itertools import combinations
from random import Random

from leastfield import first
from leastfield.diagonals import diagonals_cross, diagonals_of, sees
from leastfield.meshes import Mesh, by_points, edges_of, fills, is_mesh, mesh_area
from leastfield.flips import run_flips, can_flip
from leastfield.plates import Plate, corners_of, plate_area, sides_of
from tests.checks import Checks
from tests.samples import ANY, DART, PLATES, RING, SQUARE, STRAIGHT, THREE_HOLES, TRIANGLE, TWO_HOLES, at, spoiled

EVERY = dict(PLATES, **{"three holes": THREE_HOLES})
SEVEN = Plate(((0, 0), (5, -1), (8, 2), (8, 6), (4, 9), (0, 8), (-2, 4)), ())
SMALL = [SQUARE, DART, RING, STRAIGHT, TRIANGLE, SEVEN,
         Plate(((0, 0), (9, 0), (9, 9), (0, 9)), (((3, 3), (4, 6), (6, 4)),)),
         Plate(((0, 0), (4, 0), (8, 0), (8, 8), (4, 4), (0, 8)), ())]


def cross_none(plate, some):
    return not any(diagonals_cross(plate, one, other) for one, other in combinations(some, 2))


def greedy(plate, parting):
    taken = list(parting)
    for pair in diagonals_of(plate):
        if not any(diagonals_cross(plate, pair, other) for other in taken) and pair not in taken:
            taken.append(pair)
    return tuple(sorted(taken))


class Partings(Checks):
    def test_numbers(self):
        for plate, diagonals, triangles in ((TRIANGLE, 0, 1), (SQUARE, 1, 2), (RING, 6, 6), (STRAIGHT, 3, 4),
                                            (TWO_HOLES, 15, 14), (THREE_HOLES, 18, 16)):
            self.same(first.many_diagonals(plate), diagonals)
            self.same(first.many_triangles(plate), triangles)

    def test_is_parting(self):
        random = Random(2)
        for plate in EVERY.values():
            pairs = diagonals_of(plate)
            for many in (0, 1, 2, 2, 3, 3, 4):
                some = tuple(sorted(random.sample(pairs, min(many, len(pairs)))))
                self.assertIs(first.is_parting(plate, some), cross_none(plate, some))
                if len(some) > 1:
                    self.assertIs(first.is_parting(plate, some[::-1]), False)
                    self.assertIs(first.is_parting(plate, some + some[-1:]), False)
                if some:
                    self.assertIs(first.is_parting(plate, list(some)), False)
            self.assertIs(first.is_parting(plate, ()), True)
            self.assertIs(first.is_parting(plate, []), False)
            full = greedy(plate, ())
            self.assertIs(first.is_parting(plate, full), True)
            for side in sides_of(plate):
                self.assertIs(first.is_parting(plate, (tuple(sorted(side)),)), False)

    def test_is_parting_of_any_value(self):
        for value in ANY:
            self.assertIs(first.is_parting(SQUARE, value), value == (), value)
        self.assertIs(first.is_parting(SQUARE, ((0, 2),)), True)
        self.assertIs(first.is_parting(SQUARE, ((0, 2), (1, 3))), False)
        for parting in (((0, 2),), ((1, 3),)):
            for value in spoiled(parting):
                if value != ():
                    self.assertIs(first.is_parting(SQUARE, value), False, value)
        self.assertIs(first.is_parting(SQUARE, ((True, 3),)), False)

    def test_completed(self):
        random = Random(3)
        for plate in EVERY.values():
            pairs = diagonals_of(plate)
            for many in (0, 1, 2, 3, 99):
                some = []
                for pair in random.sample(pairs, len(pairs)):
                    if len(some) < many and cross_none(plate, some + [pair]):
                        some.append(pair)
                some = tuple(sorted(some))
                done = first.completed(plate, some)
                self.same(done, greedy(plate, some))
                self.assertTrue(set(some) <= set(done))
                self.assertTrue(first.is_parting(plate, done))
                self.assertEqual(len(done), first.many_diagonals(plate))
        self.same(first.completed(SQUARE, ()), ((0, 2),))
        self.same(first.completed(SQUARE, ((1, 3),)), ((1, 3),))

    def test_all_partings(self):
        for plate in SMALL:
            pairs = diagonals_of(plate)
            expected = [some for many in range(len(pairs) + 1) for some in combinations(pairs, many)
                        if cross_none(plate, some) and len(greedy(plate, some)) == many]
            found = first.all_partings(plate)
            self.same(found, tuple(sorted(expected)))
            self.assertEqual({len(some) for some in found}, {first.many_diagonals(plate)})
        self.same(len(first.all_partings(SEVEN)), 42)
        self.same(first.all_partings(SQUARE), (((0, 2),), ((1, 3),)))
        self.same(first.all_partings(TRIANGLE), ((),))


class Meshes(Checks):
    def check_mesh(self, plate, parting, mesh):
        corners = corners_of(plate)
        self.same(mesh.points, tuple(at(x, y) for x, y in corners))
        self.assertTrue(is_mesh(mesh))
        self.assertTrue(fills(plate, mesh))
        self.assertEqual(len(mesh.triangles), first.many_triangles(plate))
        self.assertEqual(mesh_area(mesh), (plate_area(plate), 1))
        sides = [tuple(sorted(side)) for side in sides_of(plate)]
        self.same(edges_of(mesh), tuple(sorted(sides + list(parting))))

    def test_first_meshes(self):
        for plate in EVERY.values():
            mesh = first.first_mesh(plate)
            self.check_mesh(plate, greedy(plate, ()), mesh)
            self.assertEqual(mesh, first.mesh_of_parting(plate, first.completed(plate, ())))
        self.same(first.first_mesh(DART).triangles, ((0, 1, 2), (0, 2, 3)))

    def test_of_all_full_partings(self):
        for plate in SMALL:
            seen = []
            for parting in first.all_partings(plate):
                mesh = first.mesh_of_parting(plate, parting)
                self.check_mesh(plate, parting, mesh)
                seen.append(mesh.triangles)
            self.assertEqual(len(set(seen)), len(seen))

    def test_partings_not_from_the_least_diagonal_on(self):
        for plate in EVERY.values():
            parting = ()
            for pair in diagonals_of(plate)[::-1]:
                if cross_none(plate, parting + (pair,)):
                    parting = tuple(sorted(parting + (pair,)))
            self.check_mesh(plate, parting, first.mesh_of_parting(plate, parting))

    def test_flips_lead_to_partings_again(self):
        for plate in SMALL[:7]:
            every = {by_points(first.mesh_of_parting(plate, parting)).triangles for parting in first.all_partings(plate)}
            reached, waiting = set(), [first.first_mesh(plate)]
            while waiting:
                mesh = waiting.pop()
                form = by_points(mesh).triangles
                if form not in reached:
                    reached.add(form)
                    waiting.extend(run_flips(mesh, [edge]) for edge in edges_of(mesh) if can_flip(mesh, edge))
            self.assertEqual(reached, every)

    def test_hole_alone_in_its_triangle(self):
        # The corners of the outer ring are neighbours of one another, but their triangle is no triangle of the mesh.
        mesh = first.first_mesh(RING)
        self.assertNotIn((0, 1, 2), mesh.triangles)
        self.assertIsInstance(mesh, Mesh)
        self.assertTrue(all(sees(RING, *edge) for edge in first.completed(RING, ())))
