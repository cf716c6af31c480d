"""[17] to [19] Meshes."""

from fractions import Fraction
from itertools import permutations
from random import Random

from leastfield import meshes
from leastfield.errors import InvalidMesh, InvalidPoint, InvalidSize
from leastfield.meshes import Mesh
from leastfield.plates import Plate, corners_of, one_form, plate_area, sides_of
from tests.checks import Checks
from tests.samples import (ANY, DART, DART_MESH, FAN, FLAT, KITE, MANY_SMALL, MESHES, ONE, PLATES, RING, RING_MESH, SQUARE,
                           STEEP, STRAIGHT, WINDOW, at, block, cross, frac, grid_mesh, rotated, spoiled, worth_of, xy)

ALL = list(MESHES.values()) + MANY_SMALL
FAN_PLATE = Plate(((0, 0), (4, 0), (4, 4), (0, 4)), ())


def ways(triangle):
    a, b, c = triangle
    return [(a, b), (b, c), (c, a)]


def edge_table(mesh):
    """The third corner for each directed edge, found by going through all triples."""
    return {way: third for triangle in mesh.triangles for way, third in zip(ways(triangle), (triangle[2],) + triangle[:2])}


def edges(mesh):
    return sorted({tuple(sorted(way)) for triangle in mesh.triangles for way in ways(triangle)})


def overlap(one, other):
    """Whether two triangles of pairs, turned left, have places within in common."""
    for first, second in ((one, other), (other, one)):
        for k in range(3):
            if all(cross(first[k], first[(k + 1) % 3], p) <= 0 for p in second):
                return False
    return True


def goes_through(a, b, triangle):
    """Whether the segment from a to b comes strictly into a triangle that is turned left."""
    low, high = Fraction(0), Fraction(1)
    for k in range(3):
        p, q = triangle[k], triangle[(k + 1) % 3]
        first, second = cross(p, q, a), cross(p, q, b)
        if first <= 0 and second <= 0:
            return False
        if first <= 0:
            low = max(low, Fraction(-first) / (second - first))
        elif second <= 0:
            high = min(high, Fraction(first) / (first - second))
    return low < high


def fills_by_words(plate, mesh):
    """Whether a mesh fills a plate, by the words of [17], one after the other."""
    spots = [xy(point) for point in mesh.points]
    if len(set(spots)) < len(spots) or list(mesh.triangles) != sorted(set(mesh.triangles)):
        return False
    triangles = [[spots[k] for k in triangle] for triangle in mesh.triangles]
    if any(cross(*triangle) <= 0 or names[0] != min(names) for triangle, names in zip(triangles, mesh.triangles)):
        return False
    corners = corners_of(plate)
    if any(corner not in spots for corner in corners):
        return False
    if {k for triangle in mesh.triangles for k in triangle} != set(range(len(spots))):
        return False
    if sum(cross(*triangle) for triangle in triangles) != plate_area(plate):
        return False
    if any(overlap(one, other) for k, one in enumerate(triangles) for other in triangles[:k]):
        return False
    for triangle in triangles:
        middle = tuple(sum(p[k] for p in triangle) / 3 for k in (0, 1))
        turns = sum(winding([corners[k] for k in ring], middle) for ring in rings(plate))
        if turns != 1 or any(goes_through(corners[a], corners[b], triangle) for a, b in sides_of(plate)):
            return False
    return not any(cross(spots[a], spots[b], p) == 0 and min(spots[a], spots[b]) < p < max(spots[a], spots[b])
                   for triangle in mesh.triangles for a, b in ways(triangle) for p in spots)


def rings(plate):
    found, first = [], 0
    for ring in (plate.outer,) + plate.holes:
        found.append(range(first, first + len(ring)))
        first += len(ring)
    return found


def winding(ring, p):
    turns = 0
    for k, a in enumerate(ring):
        b = ring[(k + 1) % len(ring)]
        if a[1] <= p[1] < b[1] and cross(a, b, p) > 0:
            turns += 1
        if b[1] <= p[1] < a[1] and cross(a, b, p) < 0:
            turns -= 1
    return turns


class WhatIsKept(Checks):
    def test_arguments_are_kept_themselves(self):
        for points, triangles in ((FAN.points, FAN.triangles), ([], None), (3, "x"), ((1, [2]), [(0, 1)]), (None, FAN)):
            mesh = Mesh(points, triangles)
            self.assertIs(mesh.points, points)
            self.assertIs(mesh.triangles, triangles)

    def test_equal(self):
        self.assertTrue(FAN == Mesh(FAN.points, FAN.triangles))
        self.assertFalse(FAN != Mesh(FAN.points, FAN.triangles))
        self.assertTrue(Mesh([], None) == Mesh([], None))
        for other in (Mesh(FAN.points, FAN.triangles[:-1]), Mesh(FAN.points[:-1], FAN.triangles), KITE, Mesh(None, None),
                      Mesh(FAN.triangles, FAN.points), Mesh(list(FAN.points), FAN.triangles)):
            self.assertIs(FAN == other, False)
            self.assertIs(FAN != other, True)
        for other in (None, 1, (FAN.points, FAN.triangles), SQUARE, "mesh"):
            self.assertIs(FAN == other, False)
            self.assertIs(other == FAN, False)


class NeedMesh(Checks):
    def wrong(self, error, told, value):
        self.raises(error, told, meshes.need_mesh, value)
        self.assertIs(meshes.is_mesh(value), False)

    def test_meshes(self):
        for mesh in ALL:
            self.assertIsNone(meshes.need_mesh(mesh))
            self.assertIs(meshes.is_mesh(mesh), True)

    def test_no_mesh_of_two_tuples(self):
        for value in ANY:
            if not isinstance(value, Mesh):
                self.wrong(InvalidMesh, -1, value)
        for value in ((FAN.points, FAN.triangles), Mesh(list(FAN.points), FAN.triangles), Mesh(FAN.points, list(FAN.triangles)),
                      Mesh(None, None), Mesh(FAN.points, None), Mesh(FAN, FAN), Mesh([None], (None,)), Mesh("ab", ())):
            self.wrong(InvalidMesh, -1, value)

    def test_first_wrong_point(self):
        for thing in (None, True, [], (0, 0), at(0, 0) + at(0, 0), FAN, [(0, 1), (0, 1)], ((0, 1), (0, 2)), ((0, 1), (True, 1))):
            for k in (0, 2, 4):
                self.wrong(InvalidPoint, k, Mesh(FAN.points[:k] + (thing,) + FAN.points[k + 1:], FAN.triangles))
                self.wrong(InvalidPoint, k, Mesh(FAN.points[:k] + (thing,) * (5 - k), (None,)))
        self.wrong(InvalidPoint, 3, Mesh(FAN.points[:3] + FAN.points[1:2] + (None,), FAN.triangles))
        self.wrong(InvalidPoint, 5, Mesh(FAN.points + FAN.points[:1], FAN.triangles))
        self.wrong(InvalidPoint, 1, Mesh((at(0, 0), at(0, 0)), (None,)))
        for value in spoiled(FAN.points):
            if isinstance(value, tuple) and len(value) == 5:
                with self.assertRaises(InvalidPoint):
                    meshes.need_mesh(Mesh(value, ("wrong, too",)))

    def test_first_wrong_triangle(self):
        right = FAN.triangles
        for thing in (None, True, 5, "012", (), (0, 1), (0, 1, 4, 2), [0, 1, 4], (0, 1, 5), (0, 1, -1), (-1, 0, 1), (0, 4, 1),
                      (1, 4, 0), (4, 0, 1), (0, 0, 1), (0, 1, 1), (0, True, 4), (False, 1, 4), (0, 1, None), FAN, ((0, 1, 4),),
                      (0, 1, (4,)), (0, 1, 10 ** 3999)):
            self.wrong(InvalidMesh, 0, Mesh(FAN.points, (thing,) + right[1:]))
            self.wrong(InvalidMesh, 3, Mesh(FAN.points, right[:3] + (thing,)))
            self.wrong(InvalidMesh, 4, Mesh(FAN.points, right + (thing, None)))
        straight = Mesh((at(0, 0), at(1, 0), at(2, 0), at(0, 2)), ((0, 1, 2), (0, 2, 3)))
        self.wrong(InvalidMesh, 0, straight)

    def test_triangles_ascend(self):
        right = FAN.triangles
        self.wrong(InvalidMesh, 1, Mesh(FAN.points, (right[1], right[0]) + right[2:]))
        self.wrong(InvalidMesh, 3, Mesh(FAN.points, right[:2] + (right[3], right[2])))
        self.wrong(InvalidMesh, 1, Mesh(FAN.points, (right[0], right[0]) + right[1:]))
        self.wrong(InvalidMesh, 4, Mesh(FAN.points, right + (right[3],)))

    def test_edges_in_one_direction_stand_once(self):
        points = (at(0, 0), at(4, 0), at(0, 4), at(4, 4), at(1, 1))
        self.wrong(InvalidMesh, 1, Mesh(points, ((0, 1, 2), (0, 1, 3))))
        self.wrong(InvalidMesh, 1, Mesh(points, ((0, 1, 2), (0, 1, 4), (1, 3, 2))))
        self.wrong(InvalidMesh, 1, Mesh(points, ((0, 1, 4), (0, 3, 4), (1, 2, 4))))
        self.wrong(InvalidMesh, 2, Mesh(points, ((0, 1, 4), (0, 3, 2), (0, 4, 2))))
        self.wrong(InvalidMesh, 2, Mesh(points, ((0, 1, 4), (1, 2, 4), (1, 3, 4))))

    def test_what_fills_no_plate(self):
        for mesh in self.fill_none():
            self.wrong(InvalidMesh, len(mesh.triangles), mesh)
            for plate in PLATES.values():
                self.assertIs(meshes.fills(plate, mesh), False)

    def fill_none(self):
        half, third = Fraction(1, 2), Fraction(1, 3)
        yield Mesh((), ())
        yield Mesh((at(0, 0),), ())
        # A point that no triangle has.
        yield Mesh(ONE.points + (at(9, 9),), ONE.triangles)
        yield Mesh(ONE.points + (at(2, 0),), ONE.triangles)
        # Corners that are no integers, or beyond 1000.
        yield Mesh((at(0, 0), at(4, 0), at(half, 3)), ((0, 1, 2),))
        yield Mesh((at(0, 0), at(4, 0), at(1, third)), ((0, 1, 2),))
        yield Mesh((at(0, 0), at(1001, 0), at(1, 3)), ((0, 1, 2),))
        for spot in ((half + 1, 3), (1, half + 2)):
            yield Mesh(RING_MESH.points[:4] + (at(*spot),) + RING_MESH.points[5:], RING_MESH.triangles)
        # Two plates, apart or with one corner in common.
        yield Mesh(tuple(at(x, y) for x, y in ((0, 0), (1, 0), (0, 1), (5, 5), (6, 5), (5, 6))), ((0, 1, 2), (3, 4, 5)))
        yield Mesh(tuple(at(x, y) for x, y in ((0, 0), (1, 0), (0, 1), (2, 0), (2, 1))), ((0, 1, 2), (1, 3, 4)))
        # Triangles that overlap, though no edge stands twice in one direction.
        yield Mesh(tuple(at(x, y) for x, y in ((0, 0), (4, 0), (0, 4), (1, 1), (5, 1), (1, 5))), ((0, 1, 2), (3, 4, 5)))
        yield Mesh(tuple(at(x, y) for x, y in ((0, 0), (9, 0), (0, 9), (1, 1), (2, 1), (1, 2))), ((0, 1, 2), (3, 4, 5)))
        # A corner within an edge of another triangle, at the border and inside.
        yield Mesh(tuple(at(x, y) for x, y in ((0, 0), (4, 0), (2, 4), (2, 0), (2, -3))), ((0, 1, 2), (0, 4, 3), (1, 3, 4)))
        yield Mesh(tuple(at(x, y) for x, y in ((0, 0), (4, 0), (4, 4), (0, 4), (2, 2))), ((0, 1, 2), (0, 4, 3), (2, 3, 4)))
        yield Mesh(tuple(at(x, y) for x, y in ((0, 0), (2, 0), (0, 2), (-2, 0), (0, -2), (1, 0))),
                   ((0, 1, 2), (0, 2, 3), (0, 3, 4), (0, 4, 5)))
        # A hole that touches the border, or another hole, in one point.
        yield Mesh(tuple(at(x, y) for x, y in ((0, 0), (8, 0), (8, 8), (0, 8), (2, 1), (1, 2))),
                   ((0, 1, 4), (0, 5, 3), (1, 2, 4), (2, 3, 5), (2, 5, 4)))
        yield grid_mesh(block(4, 4, [(1, 1), (2, 2)]), 1)
        yield grid_mesh(block(3, 3, [(1, 0), (0, 1)]), 2)
        yield grid_mesh(block(3, 3, [(1, 1), (2, 2)]), 3)
        # Each edge stands once, but places are covered twice.
        yield self.twice_round()

    def twice_round(self):
        """A strip that goes round the middle twice and closes then, the second time a little farther out."""
        eight = [(3, 0), (2, 2), (0, 3), (-2, 2), (-3, 0), (-2, -2), (0, -3), (2, -2)]
        inner = [(often * x, often * y) for often in (10, 11) for x, y in eight]
        outer = [(3 * x, 3 * y) for x, y in inner]
        points = tuple(at(x, y) for x, y in inner + outer)
        triples = []
        for k in range(16):
            after = (k + 1) % 16
            triples += [(k, 16 + k, 16 + after), (k, 16 + after, after)]
        return Mesh(points, tuple(sorted(rotated(triple) for triple in triples)))

    def test_any_changed_triangle_mesh(self):
        for mesh in (FAN, KITE, RING_MESH, DART_MESH):
            for value in spoiled(mesh.triangles):
                # Without a triangle a mesh may well be one.
                if not (isinstance(value, tuple) and all(triangle in mesh.triangles for triangle in value)):
                    self.assertIs(meshes.is_mesh(Mesh(mesh.points, value)), False)

    def test_parts_of_a_lattice(self):
        random = Random(17)
        found = {True: 0, False: 0}
        for round in range(300):
            whole = grid_mesh(block(3, 3), round % 7)
            kept = [triangle for triangle in whole.triangles if random.random() < 0.8]
            used = sorted({k for triangle in kept for k in triangle})
            number = {k: n for n, k in enumerate(used)}
            mesh = Mesh(tuple(whole.points[k] for k in used), tuple(tuple(number[k] for k in t) for t in kept))
            right = self.is_in_one_piece(mesh)
            found[right] += 1
            self.assertIs(meshes.is_mesh(mesh), right)
            if right:
                self.assertTrue(fills_by_words(meshes.plate_of(mesh), mesh))
        self.assertGreater(min(found.values()), 30)

    def is_in_one_piece(self, mesh):
        """Whether triangles hang together by edges, over all and round each point."""
        lots = [mesh.triangles] + [[t for t in mesh.triangles if k in t] for k in range(len(mesh.points))]
        for k, lot in enumerate(lots):
            reached, waiting = set(), list(lot[:1])
            while waiting:
                triangle = waiting.pop()
                reached.add(triangle)
                for other in lot:
                    shared = set(triangle) & set(other)
                    if len(shared) == 2 and (k == 0 or k - 1 in shared) and other not in reached:
                        waiting.append(other)
            if len(reached) < len(lot) or not lot:
                return False
        return True


class Fills(Checks):
    def test_plates_of_meshes(self):
        for mesh, plate in ((FAN, SQUARE), (RING_MESH, RING), (DART_MESH, DART), (MESHES["cell"], SQUARE),
                            (ONE, Plate(((0, 0), (4, 0), (1, 1)), ())),
                            (MESHES["frame"], Plate(((0, 0), (12, 0), (12, 12), (0, 12)), (((4, 4), (4, 8), (8, 8), (8, 4)),))),
                            (MESHES["bent two holes"], Plate(((0, 0), (24, 0), (24, 16), (0, 16)),
                                                             (((4, 4), (4, 8), (8, 8), (8, 4)),
                                                              ((16, 8), (16, 12), (20, 12), (20, 8))))),
                            (MESHES["comb"], Plate(((0, 0), (20, 0), (20, 8), (16, 8), (16, 4), (12, 4), (12, 8), (8, 8),
                                                    (8, 4), (4, 4), (4, 8), (0, 8)), ()))):
            self.assertEqual(meshes.plate_of(mesh), one_form(plate))
            self.assertIs(meshes.fills(one_form(plate), mesh), True)
            self.assertTrue(fills_by_words(plate, mesh))

    def test_all_pairs(self):
        plates = list(PLATES.values()) + [meshes.plate_of(mesh) for mesh in ALL]
        for mesh in ALL:
            form = meshes.plate_of(mesh)
            self.assertEqual(one_form(form), form)
            for plate in plates:
                self.assertIs(meshes.fills(plate, mesh), fills_by_words(plate, mesh))

    def test_the_least_areas(self):
        small = meshes.mesh_of((at(0, 0), at(1, 0), at(0, 1)), ((0, 1, 2),))
        self.assertIs(meshes.is_mesh(small), True)
        plate = Plate(((0, 0), (9, 0), (0, 9)), (((1, 1), (1, 2), (2, 1)),))
        mesh = Mesh(RING_MESH.points[:4] + (at(1, 2), at(2, 1)), RING_MESH.triangles)
        self.assertIs(meshes.is_mesh(mesh), True)
        self.assertEqual(meshes.plate_of(mesh), plate)
        self.same(meshes.border_rings(meshes.renumbered(mesh, (3, 4, 5, 0, 1, 2))), ((3, 4, 5), (0, 1, 2)))

    def test_straight_corners(self):
        self.assertIs(meshes.fills(STRAIGHT, FAN), False)
        more = meshes.mesh_of(FAN.points + (at(2, 0), at(2, 4)), ((0, 5, 4), (5, 1, 4), (1, 2, 4), (2, 6, 4), (6, 3, 4), (0, 4, 3)))
        self.assertIs(meshes.fills(STRAIGHT, more), True)
        self.assertIs(meshes.fills(SQUARE, more), True)
        self.assertIs(meshes.fills(Plate(((0, 0), (1, 0), (4, 0), (4, 4), (0, 4)), ()), more), False)
        self.assertEqual(meshes.plate_of(more), SQUARE)
        self.assertIs(meshes.fills(Plate(((4, 0), (4, 4), (0, 4), (0, 0), (2, 0)), ()), FAN), False)

    def test_any_value(self):
        for value in ANY:
            self.assertIs(meshes.fills(SQUARE, value), value is FAN)
            self.assertIs(meshes.is_mesh(value), value is FAN or value is KITE)
        self.assertIs(meshes.fills(WINDOW, FAN), False)


class MeshOf(Checks):
    def test_put_in_order(self):
        random = Random(5)
        for mesh in ALL:
            triples = [random.choice(list(permutations(triangle))) for triangle in mesh.triangles]
            random.shuffle(triples)
            for points, some in ((list(mesh.points), triples), (mesh.points, tuple(triples)), (mesh.points, [list(t) for t in triples])):
                made = meshes.mesh_of(points, some)
                self.assertEqual(made, mesh)
                self.same(made.points, mesh.points)
                self.same(made.triangles, mesh.triangles)

    def test_as_often_as_told(self):
        made = meshes.mesh_of(FAN.points, [(4, 1, 0), (0, 1, 4), (1, 4, 0), (2, 3, 4)])
        self.same(made.triangles, ((0, 1, 4), (0, 1, 4), (0, 1, 4), (2, 3, 4)))
        self.same(meshes.mesh_of([], []).points, ())
        self.same(meshes.mesh_of([], []).triangles, ())


class Edges(Checks):
    def test_edges(self):
        for mesh in ALL:
            table = edge_table(mesh)
            every = edges(mesh)
            inner = [(a, b) for a, b in every if (a, b) in table and (b, a) in table]
            self.same(meshes.edges_of(mesh), tuple(every))
            self.same(meshes.inner_edges(mesh), tuple(inner))
            self.same(meshes.borders_of(mesh), tuple(edge for edge in every if edge not in inner))
            for one in range(len(mesh.points)):
                for other in range(len(mesh.points)):
                    found = [k for k, triangle in enumerate(mesh.triangles) if (one, other) in ways(triangle)]
                    self.same(meshes.triangle_at(mesh, one, other), found[0] if found else None)
            for a, b in every:
                self.same(meshes.opposites(mesh, (a, b)), (table.get((a, b)), table.get((b, a))))

    def test_no_edge(self):
        for mesh in (FAN, KITE, RING_MESH):
            every = edges(mesh)
            for value in ANY + ((1, 0), (4, 0), [0, 4], (0, 4, 1), (0, 99), (1, 1), (-1, 0)):
                right = isinstance(value, tuple) and value in every and not any(isinstance(k, bool) for k in value)
                if not right:
                    self.raises(InvalidSize, "edge", meshes.opposites, mesh, value)
        for value in spoiled((0, 1)):
            self.raises(InvalidSize, "edge", meshes.opposites, FAN, value)
        self.raises(InvalidSize, "edge", meshes.opposites, FAN, (0, 2))

    def test_border_rings(self):
        for mesh in ALL:
            table = edge_table(mesh)
            rings = meshes.border_rings(mesh)
            sides = [(ring[k - 1], ring[k]) for ring in rings for k in range(len(ring))]
            self.assertEqual(sorted(sides), sorted(way for way in table if way[::-1] not in table))
            self.assertTrue(all(ring[0] == min(ring) for ring in rings))
            areas = [sum(cross((0, 0), xy(mesh.points[ring[k - 1]]), xy(mesh.points[ring[k]])) for k in range(len(ring)))
                     for ring in rings]
            self.assertEqual([area > 0 for area in areas], [True] + [False] * (len(rings) - 1))
            self.assertEqual(list(rings[1:]), sorted(rings[1:]))
            self.assertTrue(isinstance(rings, tuple) and all(isinstance(ring, tuple) for ring in rings))
        self.same(meshes.border_rings(RING_MESH), ((0, 1, 2), (3, 4, 5)))
        other = meshes.renumbered(RING_MESH, (5, 4, 3, 2, 1, 0))
        self.same(meshes.border_rings(other), ((3, 5, 4), (0, 2, 1)))


class Numbers(Checks):
    def test_counts(self):
        self.same(meshes.counts(FAN), (5, 8, 4, 4, 0))
        self.same(meshes.counts(RING_MESH), (6, 12, 6, 6, 1))
        for mesh in ALL:
            table = edge_table(mesh)
            border = sum(way[::-1] not in table for way in table)
            holes = len(meshes.plate_of(mesh).holes)
            self.same(meshes.counts(mesh), (len(mesh.points), len(edges(mesh)), border, len(mesh.triangles), holes))
            points, many, border, triangles, holes = meshes.counts(mesh)
            self.assertEqual(triangles, 2 * points + 2 * holes - border - 2)
            self.assertEqual(points - many + triangles, 1 - holes)

    def test_areas(self):
        for mesh in ALL:
            self.same(meshes.mesh_area(mesh), frac(plate_area(meshes.plate_of(mesh))))
            self.assertEqual(worth_of(meshes.mesh_area(mesh)),
                             sum(cross(*[xy(mesh.points[k]) for k in t]) for t in mesh.triangles))
        self.same(meshes.mesh_area(ONE), (4, 1))
        self.same(meshes.mesh_area(Mesh((at(0, 0), at(Fraction(1, 2), 0), at(0, 1)), ((0, 1, 2),))), (1, 2))

    def test_renumbered(self):
        random = Random(3)
        for mesh in ALL:
            order = list(range(len(mesh.points)))
            random.shuffle(order)
            other = meshes.renumbered(mesh, tuple(order))
            self.same(other.points, tuple(mesh.points[k] for k in order))
            named = [tuple(order[k] for k in triangle) for triangle in other.triangles]
            self.same(tuple(sorted(rotated(t) for t in named)), mesh.triangles)
            self.assertTrue(meshes.is_mesh(other))
            self.assertEqual(meshes.by_points(other), meshes.by_points(mesh))
            self.assertEqual(meshes.renumbered(mesh, tuple(range(len(order)))), mesh)
        self.same(meshes.renumbered(KITE, (1, 2, 3, 0)).points, (at(0, -2), at(1, 0), at(0, 2), at(-1, 0)))
        self.same(meshes.renumbered(KITE, (1, 2, 3, 0)).triangles, ((0, 1, 3), (1, 2, 3)))

    def test_no_order(self):
        for value in ANY + ((0, 1, 2, 3), (0, 1, 2, 3, 4, 5), [0, 1, 2, 3, 4], (0, 1, 2, 3, 3), (1, 2, 3, 4, 5), (4, 3, 2, True, 0),
                            (4, 3, 2, 1, False), (4, 3, 2, 1, None), (4, 3, 2, 1, "0"), "01234", (0, 1, 2, 3, -1)):
            self.raises(InvalidSize, "order", meshes.renumbered, FAN, value)
        for value in spoiled((4, 2, 0, 1, 3)):
            self.raises(InvalidSize, "order", meshes.renumbered, FAN, value)

    def test_by_points(self):
        for mesh in ALL:
            other = meshes.by_points(mesh)
            self.same(other.points, tuple(sorted(mesh.points)))
            place = {point: k for k, point in enumerate(other.points)}
            named = [rotated(tuple(place[mesh.points[k]] for k in t)) for t in mesh.triangles]
            self.same(other.triangles, tuple(sorted(named)))
        # As tuples compare: of equal tops the one with the lesser bottom comes first.
        points = (at(Fraction(1, 3), 0), at(Fraction(1, 4), 0), at(0, 3), at(0, 0), at(1, 0))
        mesh = meshes.mesh_of(points, ((3, 1, 2), (1, 0, 2), (0, 4, 2)))
        self.assertTrue(meshes.is_mesh(mesh))
        self.same(meshes.by_points(mesh).points, (at(0, 0), at(0, 3), at(1, 0), at(Fraction(1, 3), 0), at(Fraction(1, 4), 0)))

    def test_only_numbers_apart(self):
        self.assertNotEqual(meshes.by_points(FLAT), meshes.by_points(STEEP))
        self.assertNotEqual(meshes.by_points(FAN), meshes.by_points(MESHES["cell"]))
