"""[27] Bridges and walks, and [28] ears."""

from itertools import combinations
from random import Random

from leastfield import bridges, ears
from leastfield.diagonals import diagonals_cross, diagonals_of
from leastfield.first import first_mesh, many_triangles
from leastfield.meshes import fills, is_mesh, mesh_of
from leastfield.plates import Plate, corners_of, plate_area, rings_of, sides_of
from tests.checks import Checks
from tests.samples import DART, PLATES, RING, SQUARE, THREE_HOLES, TRIANGLE, TWO_HOLES, WINDOW, at, cross

SLIT = Plate(((0, 0), (8, 0), (8, 4), (0, 4)), (((1, 2), (2, 2), (7, 2), (4, 1)),))
CROSS = Plate(((0, 0), (9, 0), (9, 9), (0, 9)), (((4, 4), (4, 5), (5, 5), (5, 4)), ((1, 1), (1, 2), (2, 1)), ((7, 7), (7, 8), (8, 7))))
# The least diagonal to the second hole crosses a bridge that is taken ahead of it.
CROSSED = Plate(((0, 0), (14, 0), (12, 2), (14, 14), (0, 14)),
                (((5, 11), (10, 10), (6, 10)), ((12, 10), (11, 9), (10, 11)), ((2, 9), (7, 9), (8, 8))))
# From the outer ring only the last hole is seen, from there only the one ahead of it: so bridges are not taken in order.
NEST = Plate(((0, 0), (30, 0), (30, 30), (0, 30)), (
    ((14, 14), (14, 16), (16, 15)),
    ((10, 10), (10, 20), (20, 20), (20, 16), (19, 16), (19, 19), (11, 19), (11, 11), (19, 11), (19, 14), (20, 14), (20, 10)),
    ((5, 5), (5, 25), (25, 25), (25, 5), (17, 5), (17, 6), (24, 6), (24, 24), (6, 24), (6, 6), (13, 6), (13, 5))))
EVERY = list(PLATES.values()) + [THREE_HOLES, SLIT, CROSS, CROSSED, NEST]


def bridges_by_words(plate):
    rings = rings_of(plate)
    where = {k: ring for ring in rings for k in ring}
    reached, taken = [rings[0]], []
    while len(taken) < len(plate.holes):
        fit = [pair for pair in diagonals_of(plate) if (where[pair[0]] in reached) != (where[pair[1]] in reached)
               and not any(diagonals_cross(plate, pair, other) for other in taken)]
        taken.append(min(fit))
        reached += [where[k] for k in taken[-1] if where[k] not in reached]
    return tuple(sorted(taken))


def half(way):
    """0 for ways in the lower half of turning right from the left, 1 for those in the other one."""
    return 0 if way[1] > 0 or (way[1] == 0 and way[0] < 0) else 1


def is_before(one, other):
    """Whether one way comes first, turning right from the way to the left."""
    if half(one) != half(other):
        return half(one) < half(other)
    return cross((0, 0), one, other) < 0


def walk_by_words(plate, some):
    corners = corners_of(plate)
    table = {}
    for one, other in list(sides_of(plate)) + [pair for low, high in some for pair in ((low, high), (high, low))]:
        table.setdefault(one, []).append(other)
    way_to = lambda a, b: (corners[b][0] - corners[a][0], corners[b][1] - corners[a][1])
    last = len(plate.outer) - 1
    row, back, here = [], last, 0
    while not row or (back, here) != (last, 0):
        row.append(here)
        others = {k: way_to(here, k) for k in set(table[here] + [back])}
        order = []
        for k in others:
            order.insert(sum(is_before(others[j], others[k]) for j in order), k)
        place = order.index(back)
        back, here = here, order[(place + 1) % len(order)]
    return tuple(row)


def some_bridges(plate, random):
    """Any parting that joins all rings by as many diagonals as there are holes."""
    rings = rings_of(plate)
    where = {k: n for n, ring in enumerate(rings) for k in ring}
    pairs = list(diagonals_of(plate))
    for _ in range(500):
        random.shuffle(pairs)
        lots, taken = {n: n for n in range(len(rings))}, []
        for pair in pairs:
            one, other = lots[where[pair[0]]], lots[where[pair[1]]]
            if one != other and not any(diagonals_cross(plate, pair, old) for old in taken):
                taken.append(pair)
                lots = {n: one if lot == other else lot for n, lot in lots.items()}
        if len(taken) == len(plate.holes):
            return tuple(sorted(taken))
    raise AssertionError("no bridges found")


ALL_WALKS = [(plate, some_bridges(plate, Random(seed))) for plate in EVERY for seed in range(4 if plate.holes else 1)]


class Bridges(Checks):
    def test_bridges(self):
        for plate in EVERY:
            found = bridges.bridges_of(plate)
            self.same(found, bridges_by_words(plate))
            self.assertEqual(len(found), len(plate.holes))
            self.assertFalse(any(diagonals_cross(plate, one, other) for one, other in combinations(found, 2)))
        self.same(bridges.bridges_of(RING), ((0, 3),))
        self.same(bridges.bridges_of(SQUARE), ())
        self.same(bridges.bridges_of(NEST), ((0, 19), (4, 10), (7, 23)))

    def test_walks(self):
        for plate, some in ALL_WALKS + [(plate, bridges_by_words(plate)) for plate in EVERY]:
            walk = bridges.walk_along(plate, some)
            self.same(walk, walk_by_words(plate, some))
            self.same(bridges.walk_along(plate, list(some)), walk)
            ways = sorted(zip(walk, walk[1:] + walk[:1]))
            self.assertEqual(ways, sorted(list(sides_of(plate)) + list(some) + [pair[::-1] for pair in some]))
            self.same(bridges.walk_area(plate, walk), plate_area(plate))
            self.same(bridges.walk_area(plate, list(walk)), plate_area(plate))
        for plate in EVERY:
            self.same(bridges.walk_of(plate), bridges.walk_along(plate, bridges.bridges_of(plate)))

    def test_by_hand(self):
        self.same(bridges.walk_of(RING), (0, 3, 4, 5, 3, 0, 1, 2))
        self.same(bridges.walk_of(DART), (0, 1, 2, 3))
        self.same(bridges.walk_along(WINDOW, ((2, 6),)), (0, 1, 2, 6, 7, 4, 5, 6, 2, 3))
        self.same(bridges.walk_along(RING, ((1, 5),)), (0, 1, 5, 3, 4, 5, 1, 2))
        # Two bridges at one corner: that which comes first as one turns right from the way back is gone along first.
        self.same(bridges.walk_along(TWO_HOLES, ((0, 4), (0, 7))), walk_by_words(TWO_HOLES, ((0, 4), (0, 7))))
        self.same(bridges.walk_area(SQUARE, (0, 1, 2)), 16)
        self.same(bridges.walk_area(SQUARE, (1, 2, 3, 0)), 32)
        self.same(bridges.walk_area(SQUARE, (0, 2, 1)), -16)


def ears_by_words(plate, walk):
    corners = corners_of(plate)
    found = []
    for k in range(len(walk)):
        three = [walk[k - 1], walk[k], walk[(k + 1) % len(walk)]]
        a, b, c = [corners[number] for number in three]
        if cross(a, b, c) > 0:
            others = [corners[number] for number in walk if number not in three]
            if not any(min(cross(a, b, p), cross(b, c, p), cross(c, a, p)) >= 0 for p in others):
                found.append(k)
    return tuple(found)


class Ears(Checks):
    def test_ears_and_cuts(self):
        random = Random(1)
        for plate, some in ALL_WALKS:
            walk = bridges.walk_along(plate, some)
            triangles = []
            while len(walk) > 3:
                found = ears.ears_of(plate, walk)
                self.same(found, ears_by_words(plate, walk))
                self.same(ears.ears_of(plate, list(walk)), found)
                far = [(a, b) for a, b in combinations(found, 2) if b - a not in (1, len(walk) - 1)]
                self.assertTrue(far)
                place = random.choice(found)
                triangles.append((walk[place - 1], walk[place], walk[(place + 1) % len(walk)]))
                self.same(ears.ear_cut(list(walk), place), walk[:place] + walk[place + 1:])
                walk = ears.ear_cut(walk, place)
            self.same(ears.ears_of(plate, walk), (0, 1, 2))
            mesh = mesh_of([at(*corner) for corner in corners_of(plate)], triangles + [walk])
            self.assertTrue(fills(plate, mesh))

    def test_meshes(self):
        for plate in EVERY:
            walk, triangles = bridges.walk_of(plate), []
            while len(walk) > 3:
                place = ears_by_words(plate, walk)[0]
                triangles.append((walk[place - 1], walk[place], walk[(place + 1) % len(walk)]))
                walk = walk[:place] + walk[place + 1:]
            expected = mesh_of([at(*corner) for corner in corners_of(plate)], triangles + [walk])
            mesh = ears.mesh_by_ears(plate)
            self.same(mesh.points, expected.points)
            self.same(mesh.triangles, expected.triangles)
            self.assertTrue(is_mesh(mesh) and fills(plate, mesh))
            self.assertEqual(len(mesh.triangles), many_triangles(plate))

    def test_by_hand(self):
        self.same(ears.ears_of(DART, (0, 1, 2, 3)), (1, 3))
        self.same(ears.ears_of(RING, (0, 3, 4, 5, 3, 0, 1, 2)), (0, 1, 4, 5))
        self.same(ears.ears_of(SQUARE, (0, 1, 2)), (0, 1, 2))
        self.same(ears.ears_of(SQUARE, (0, 1, 2, 3)), (0, 1, 2, 3))
        self.same(ears.ear_cut((0, 1, 2, 3), 0), (1, 2, 3))
        self.same(ears.ear_cut((0, 1, 2, 3), 3), (0, 1, 2))
        self.same(ears.ear_cut((0, 3, 4, 5, 3, 0, 1, 2), 4), (0, 3, 4, 5, 0, 1, 2))
        self.same(ears.mesh_by_ears(TRIANGLE).triangles, ((0, 1, 2),))
        self.assertEqual(ears.mesh_by_ears(DART), first_mesh(DART))
