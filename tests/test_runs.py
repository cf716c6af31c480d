"""[80] and [81] Runs of calls, papers of the least energy, and moves; [76] to [79] once more, for many calls."""

from random import Random

from leastfield import runs as module
from leastfield.energy import energy
from leastfield.errors import InvalidPlate, InvalidRing, Refused
from leastfield.field import check_field, least_field
from leastfield.flips import can_flip, failing, flipped
from leastfield.meshes import Mesh, fills, inner_edges, renumbered
from leastfield.plates import Plate
from leastfield.studio import Studio, mesh_with
from leastfield.tellings import is_told_by, need_telling, sum_of_tellings, times_telling, worths_of
from tests.checks import Checks
from tests.samples import ANY, DART, FAN, KITE, RING, SQUARE, STRAIGHT, TRIANGLE, WINDOW, at, frac, random_frac, spoiled, worth_of, xy
from tests.test_studio import WRONG, random_call
from tests.told import corners, random_place, random_telling, where

SOME = [SQUARE, DART, RING, WINDOW, STRAIGHT, TRIANGLE]
NOTHING = ((), (), ())
BIG = ((1, (1, 1)), (3, (3, 1)))


def some_knots(random, plate, many):
    """Unlike points of a plate that are no corners."""
    found = []
    while len(found) < many:
        point = random_place(random, plate)
        if where(plate, point)[0] in ("side", "inside") and point not in found:
            found.append(point)
    return tuple(found)


def random_move(random):
    return (random.randint(1, 5), random.randint(0, 3), random.randint(-40, 40), random.randint(-40, 40))


def moved_by_words(move, pair):
    often, quarters, right, up = move
    x, y = [(pair[0], pair[1]), (-pair[1], pair[0]), (-pair[0], -pair[1]), (pair[1], -pair[0])][quarters]
    return (often * x + right, often * y + up)


class Runs(Checks):
    def random_calls(self, seed, plate, many):
        random = Random(seed)
        studio = Studio(plate)
        calls = []
        for _ in range(many):
            call = random.choice(ANY + WRONG) if random.random() < 0.15 else random_call(random, plate, list(studio.knots()))
            if len(studio.knots()) == 8 and isinstance(call, tuple) and call[:1] == ("put",):
                call = ("undo",)
            studio.do(call)
            calls.append(call)
        return calls

    def test_beside_a_studio(self):
        words = {}
        for seed in range(24):
            plate = SOME[seed % len(SOME)]
            calls = self.random_calls(seed, plate, 30)
            rows = module.run(plate, calls)
            self.assertEqual(len(rows), 30)
            studio = Studio(plate)
            for call, row in zip(calls, rows):
                self.assertEqual(len(row), 3)
                self.assertIs(row[0], call)
                word = studio.do(call)
                self.same(row[1], word)
                self.same(row[2], studio.energy() if studio.worths() else None)
                words[word] = words.get(word, 0) + 1
            if seed < 4:
                self.assertEqual(repr(module.run(plate, tuple(calls))), repr(rows))
        self.assertEqual(set(words), {"done", "nothing", "call", "corner", "told", "knot", "outside"})

    def test_what_calls_do_to_the_energy(self):
        seen = {}
        for seed in range(30, 60):
            plate = SOME[seed % len(SOME)]
            calls = [("tell", 0, (0, 1)), ("tell", 2, (3, 1))] + self.random_calls(seed, plate, 28)
            before, told = None, {}
            studio = Studio(plate)
            for call, word, much in module.run(plate, calls):
                studio.do(call)
                now = dict(zip([studio.mesh().points[k] for k, _ in studio.worths()], [worth for _, worth in studio.worths()]))
                if word != "done":
                    self.assertEqual(much, before)
                elif before is not None and much is not None:
                    kept = all(now.get(point) == worth for point, worth in told.items())
                    if call[0] == "put":
                        self.assertLessEqual(worth_of(much), worth_of(before))
                    elif call[0] == "take" or (call[0] in ("tell", "side", "knot") and kept):
                        self.assertGreaterEqual(worth_of(much), worth_of(before))
                    if call[0] not in ("undo", "redo"):
                        seen[call[0], much == before] = seen.get((call[0], much == before), 0) + 1
                before, told = much, now
        self.assertTrue({("put", False), ("take", False), ("tell", False), ("knot", False)} <= set(seen), seen)

    def test_told_sides_raise_the_energy(self):
        calls = [("tell", 0, (0, 1)), ("tell", 1, (1, 1)), ("tell", 2, (0, 1)), ("put", at(1, 0)), ("put", at(3, 0)), ("side", 0, True), ("side", 0, False)]
        row = [much for _, _, much in module.run(SQUARE, calls)]
        self.assertEqual(row[4], row[6])
        self.assertGreater(worth_of(row[5]), worth_of(row[4]))

    def test_by_hand(self):
        calls = [("tell", 0, (0, 1)), ["undo"], ("tell", 2, (1, 1)), ("put", at(2, 0)), None, ("undo",), ("undo",), ("undo",), ("redo",)]
        self.same(module.run(SQUARE, calls), (
            (("tell", 0, (0, 1)), "done", (0, 1)), (["undo"], "call", (0, 1)), (("tell", 2, (1, 1)), "done", (1, 4)),
            (("put", at(2, 0)), "done", (9, 38)), (None, "call", (9, 38)), (("undo",), "done", (1, 4)), (("undo",), "done", (0, 1)),
            (("undo",), "done", None), (("redo",), "done", (0, 1))))
        self.same(module.run(SQUARE, []), ())
        self.raises(InvalidPlate, -2, module.run, None, [])


class Papers(Checks):
    def some_cases(self, seed):
        random = Random(seed)
        for plate in SOME:
            for many in (0, 1, 3, 5):
                telling = random_telling(random, plate)
                if telling[0] or telling[2]:
                    yield random, plate, telling, some_knots(random, plate, many)

    def test_by_words(self):
        refused = 0
        for random, plate, telling, knots in self.some_cases(1):
            mesh = mesh_with(plate, knots)
            worths = worths_of(plate, telling, mesh)
            for row in (knots, list(knots)):
                if not worths:
                    refused += 1
                    self.raises(Refused, "told", module.whole_paper, plate, telling, row)
                    self.raises(Refused, "told", module.energy_with, plate, telling, row)
                    continue
                found, field = module.whole_paper(plate, telling, row)
                self.same((found.points, found.triangles), (mesh.points, mesh.triangles))
                self.same(field, least_field(mesh, worths))
                self.same(module.energy_with(plate, telling, row), energy(mesh, field))
                self.assertIs(module.check_whole_paper(plate, telling, row, (found, field)), True)

    def test_refused(self):
        for word, knots in (("outside", [at(5, 1)]), ("knot", [at(0, 0)]), ("knot", [at(1, 1), at(1, 1)]), ("outside", [at(1, 1), at(9, 9), at(1, 1)])):
            for call in (module.whole_paper, module.energy_with):
                self.raises(Refused, word, call, SQUARE, NOTHING, knots)
                self.raises(Refused, word, call, SQUARE, (BIG, (), ()), tuple(knots))
        for call in (module.whole_paper, module.energy_with):
            self.raises(Refused, "told", call, SQUARE, NOTHING, ())
            # A told knot that is not put in counts for nothing.
            self.raises(Refused, "told", call, SQUARE, ((), (), ((at(1, 1), (2, 1)),)), ())
            self.raises(Refused, "told", call, SQUARE, ((), (), ((at(1, 1), (2, 1)),)), [at(2, 1)])
        self.same(module.energy_with(SQUARE, ((), (), ((at(1, 1), (2, 1)),)), [at(1, 1)]), (0, 1))
        self.same(module.energy_with(SQUARE, (BIG, (), ((at(1, 1), (2, 1)),)), []), module.energy_with(SQUARE, (BIG, (), ()), []))

    def test_all_whole_papers_tell_the_same_energy(self):
        turned = 0
        for random, plate, telling, knots in self.some_cases(2):
            if not worths_of(plate, telling, mesh_with(plate, knots)):
                continue
            mesh, field = module.whole_paper(plate, telling, knots)
            others = [(mesh, field), module.whole_paper(plate, telling, knots[::-1])]
            order = random.sample(range(len(mesh.points)), len(mesh.points))
            others.append((renumbered(mesh, tuple(order)), tuple(field[k] for k in order)))
            for edge in inner_edges(mesh):
                if can_flip(mesh, edge) and not failing(flipped(mesh, edge)):
                    others.append((flipped(mesh, edge), field))
                    turned += 1
            for value in others:
                self.assertIs(module.check_whole_paper(plate, telling, knots, value), True)
                self.assertIs(module.check_whole_paper(plate, telling, list(knots[::-1]), value), True)
                self.same(energy(*value), module.energy_with(plate, telling, knots))
        self.assertGreater(turned, 10)

    def test_wrong_papers(self):
        for random, plate, telling, knots in self.some_cases(3):
            worths = worths_of(plate, telling, mesh_with(plate, knots))
            if not worths:
                continue
            mesh, field = module.whole_paper(plate, telling, knots)
            for k in range(len(field)):
                other = field[:k] + (frac(worth_of(field[k]) + 1),) + field[k + 1:]
                expected = k not in dict(worths) and check_field(mesh, worths, other)
                self.assertIs(module.check_whole_paper(plate, telling, knots, (mesh, other)), expected)
            more = some_knots(random, plate, 1)
            if more[0] not in knots:
                self.assertIs(module.check_whole_paper(plate, telling, knots + more, (mesh, field)), False)
                self.assertIs(module.check_whole_paper(plate, telling, knots, module.whole_paper(plate, telling, knots + more)), False)
            for edge in inner_edges(mesh):
                if can_flip(mesh, edge) and failing(flipped(mesh, edge)):
                    other = flipped(mesh, edge)
                    value = (other, least_field(other, worths))
                    self.assertIs(module.check_whole_paper(plate, telling, knots, value), False)
        # Without any told worth every flat field has no flow; but there is no paper.
        mesh = mesh_with(SQUARE, ())
        self.assertIs(module.check_whole_paper(SQUARE, NOTHING, (), (mesh, ((0, 1),) * 4)), False)

    def test_another_plate(self):
        telling = (((0, (0, 1)), (1, (1, 1))), (), ())
        paper = module.whole_paper(SQUARE, telling, ())
        larger = Plate(((0, 0), (5, 0), (5, 5), (0, 5)), ())
        self.assertIs(module.check_whole_paper(larger, telling, (), paper), False)
        self.assertIs(module.check_whole_paper(STRAIGHT, telling, (), paper), False)
        # Straight corners are points, too; the same place without them has them as knots.
        other = Plate(((0, 0), (4, 0), (4, 4), (0, 4)), ())
        straight = module.whole_paper(STRAIGHT, telling, ())
        self.assertIs(fills(other, straight[0]), True)
        self.assertIs(module.check_whole_paper(other, (((0, (0, 1)),), (), ()), (), straight), False)

    def test_any_value(self):
        telling = (((0, (0, 1)),), (), ((at(1, 1), (1, 1)),))
        right = module.whole_paper(TRIANGLE, telling, (at(1, 1),))
        self.assertIs(module.check_whole_paper(TRIANGLE, telling, (at(1, 1),), right), True)
        mesh, field = right
        for value in ANY + tuple(spoiled(right)) + ((FAN, field), (KITE, field), (None, field), (mesh, None), (field, mesh),
                                                    (Mesh(list(mesh.points), mesh.triangles), field), (Mesh(mesh.points, ()), field),
                                                    (Mesh(mesh.points, list(mesh.triangles)), field), (Mesh(mesh.points[:3], mesh.triangles), field)):
            self.assertIs(module.check_whole_paper(TRIANGLE, telling, (at(1, 1),), value), False, value)


class Moves(Checks):
    def test_pairs_and_points(self):
        random = Random(4)
        for _ in range(200):
            move = random_move(random)
            pair = (random.randint(-50, 50), random.randint(-50, 50))
            self.same(module.pair_by(move, pair), moved_by_words(move, pair))
            point = (random_frac(random), random_frac(random))
            self.same(module.point_by(move, point), at(*moved_by_words(move, xy(point))))
        self.same(module.pair_by((2, 1, 10, 0), (3, 1)), (8, 6))
        self.same(module.point_by((3, 3, 0, 1), ((1, 2), (1, 3))), ((1, 1), (-1, 2)))
        self.same(module.pair_by((1, 0, 0, 0), (10 ** 20, -7)), (10 ** 20, -7))
        self.same(module.pair_by((50, 2, 1, -1), (1, 2)), (-49, -101))

    def test_plates_and_tellings(self):
        random = Random(5)
        for plate in SOME:
            for _ in range(4):
                move = random_move(random)
                found = module.plate_by(move, plate)
                self.same(found.outer, tuple(moved_by_words(move, corner) for corner in plate.outer))
                self.same(found.holes, tuple(tuple(moved_by_words(move, corner) for corner in hole) for hole in plate.holes))
                telling = random_telling(random, plate)
                other = module.telling_by(move, telling)
                self.same(other[:2], telling[:2])
                self.same(other[2], tuple(sorted((at(*moved_by_words(move, xy(point))), worth) for point, worth in telling[2])))
                self.assertIsNone(need_telling(found, other))

    def test_the_energy_stays(self):
        random = Random(6)
        told = 0
        for plate in SOME:
            for _ in range(4):
                move, telling, knots = random_move(random), random_telling(random, plate), some_knots(random, plate, random.randint(0, 4))
                if worths_of(plate, telling, mesh_with(plate, knots)):
                    told += 1
                    other = [module.point_by(move, knot) for knot in knots]
                    self.same(module.energy_with(module.plate_by(move, plate), module.telling_by(move, telling), other),
                              module.energy_with(plate, telling, knots))
        self.assertGreater(told, 15)

    def test_beyond(self):
        self.raises(InvalidRing, 1, module.plate_by, (1, 0, 997, 0), SQUARE)
        self.raises(InvalidRing, 0, module.plate_by, (1, 0, 0, -1001), SQUARE)
        self.raises(InvalidRing, 2, module.plate_by, (251, 0, -10, 0), SQUARE)
        self.assertEqual(module.plate_by((1, 0, 996, 0), SQUARE).outer[1], (1000, 0))
        self.assertEqual(module.plate_by((250, 1, 0, 0), SQUARE), Plate(((0, 0), (0, 1000), (-1000, 1000), (-1000, 0)), ()))


class Tellings(Checks):
    def test_sums_and_multiples(self):
        random = Random(7)
        for plate in SOME:
            telling = random_telling(random, plate)
            knots = some_knots(random, plate, 3)
            if not worths_of(plate, telling, mesh_with(plate, knots)):
                continue
            much = worth_of(module.energy_with(plate, telling, knots))
            self.assertEqual(worth_of(module.energy_with(plate, times_telling(telling, (-3, 2)), knots)), much * 9 / 4)
            self.assertEqual(worth_of(module.energy_with(plate, sum_of_tellings(telling, telling), knots)), 4 * much)

    def test_more_told_is_no_less(self):
        random = Random(8)
        tried = 0
        for _ in range(60):
            plate = random.choice(SOME)
            more = random_telling(random, plate)
            less = (tuple(pair for pair in more[0] if random.random() < 0.7), (), tuple(pair for pair in more[2] if random.random() < 0.5))
            knots = some_knots(random, plate, 3)
            if worths_of(plate, less, mesh_with(plate, knots)):
                tried += 1
                self.assertIs(is_told_by(plate, less, more), True)
                self.assertLessEqual(worth_of(module.energy_with(plate, less, knots)), worth_of(module.energy_with(plate, more, knots)))
        self.assertGreater(tried, 20)

    def test_corners_of_moves(self):
        self.assertEqual(len(corners(module.plate_by((2, 3, 1, 1), WINDOW))), 8)
