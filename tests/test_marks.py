"""[62] and [63] Marks and brackets."""

from random import Random

from leastfield import marks as module
from leastfield.energy import energy
from leastfield.errors import InvalidWorths, Refused
from leastfield.field import least_field
from leastfield.flips import run_flips, settled, settling
from leastfield.meshes import border_rings, counts, mesh_of
from leastfield.putting import put_in
from leastfield.streams import swirl
from tests.checks import Checks
from tests.grown import ALL_GROWN, GROWN, place_in_triangle
from tests.samples import ANY, FAN, KITE, MANY_SMALL, MESHES, RING_MESH, at, frac, random_frac, spoiled, worth_of
from tests.test_field import is_right_fraction
from tests.test_finer import border_place
from tests.test_flips import shaken

WHOLE = [mesh for mesh in list(MESHES.values()) + MANY_SMALL[:3] + ALL_GROWN
         if counts(mesh)[4] == 0 and 4 <= len(border_rings(mesh)[0]) and len(mesh.points) <= 20]
HOLED = [mesh for mesh in list(MESHES.values()) + GROWN if counts(mesh)[4]]
TRAY = mesh_of((at(0, 0), at(2, 0), at(2, 1), at(0, 1)), ((0, 1, 2), (0, 2, 3)))
ANY_MARKS = (module.arcs_of, module.across_worths, module.along_worths, module.bracket_paper, module.bracket)


def random_marks(random, mesh):
    ring = border_rings(mesh)[0]
    first = random.randrange(len(ring))
    places = [0] + sorted(random.sample(range(1, len(ring)), 3))
    return tuple(ring[(first + place) % len(ring)] for place in places)


def wrong_mark(mesh, value):
    """What InvalidWorths tells by the words of [62]."""
    if not isinstance(value, tuple) or len(value) != 4:
        return -1
    ring = list(border_rings(mesh)[0])
    for k, mark in enumerate(value):
        if type(mark) is not int or mark not in ring:
            return k
        if k == 0:
            ring = ring[ring.index(mark):] + ring[:ring.index(mark)]
        elif ring.index(mark) <= ring.index(value[k - 1]):
            return k
    return None


def arcs_by_words(mesh, marks):
    ring = border_rings(mesh)[0]
    arcs = []
    for one, other in zip(marks, marks[1:] + marks[:1]):
        arc, here = [one], ring.index(one)
        while arc[-1] != other:
            here = (here + 1) % len(ring)
            arc.append(ring[here])
        arcs.append(tuple(arc))
    return tuple(arcs)


def told_by_words(mesh, marks, first, second):
    arcs = arcs_by_words(mesh, marks)
    table = {k: (0, 1) for k in arcs[first]}
    table.update({k: (1, 1) for k in arcs[second]})
    return tuple(sorted(table.items()))


def wild_fields(random, mesh, marks):
    """Two fields with the told worths across and along, not least ones."""
    found = []
    for told in (module.across_worths(mesh, marks), module.along_worths(mesh, marks)):
        table = dict(told)
        found.append(tuple(table.get(k, random_frac(random)) for k in range(len(mesh.points))))
    return tuple(found)


class Needs(Checks):
    def check(self, mesh, value):
        wrong = wrong_mark(mesh, value)
        if wrong is None:
            self.assertIsNone(module.need_marks(mesh, value))
            return
        self.raises(InvalidWorths, wrong, module.need_marks, mesh, value)
        for call in ANY_MARKS:
            self.raises(InvalidWorths, wrong, call, mesh, value)

    def test_any_value(self):
        for mesh in (FAN, KITE, TRAY, MESHES["bent block"]):
            right = border_rings(mesh)[0][:4]
            for value in ANY + tuple(spoiled(right)) + (right[::-1], right[2:] + right[:2], right[:2] * 2, right[:1] * 4, right + right[:1]):
                self.check(mesh, value)

    def test_tuples_of_numbers(self):
        random = Random(1)
        right = 0
        for mesh in WHOLE:
            for _ in range(30):
                value = tuple(random.randint(-1, len(mesh.points)) for _ in range(4))
                right += wrong_mark(mesh, value) is None
                self.check(mesh, value)
            for _ in range(4):
                self.assertIsNone(module.need_marks(mesh, random_marks(random, mesh)))
        self.assertGreater(right, 5)

    def test_by_hand(self):
        for wrong, value in ((0, (4, 1, 2, 3)), (0, (True, 2, 3, 0)), (1, (1, 1, 2, 3)), (1, (1, 4, 2, 3)), (2, (0, 2, 1, 3)), (3, (1, 2, 3, 1)),
                             (3, (0, 1, 2, 2)), (3, (1, 2, 0, 3)), (-1, [0, 1, 2, 3]), (-1, (0, 1, 2)), (-1, (0, 1, 2, 3, 3)), (2, (3, 0, None, 7))):
            self.raises(InvalidWorths, wrong, module.need_marks, FAN, value)
        self.assertIsNone(module.need_marks(FAN, (3, 0, 1, 2)))

    def test_holes(self):
        for mesh in HOLED:
            for value in ANY[:20] + (border_rings(mesh)[0][:4], None):
                for call in (module.need_marks,) + ANY_MARKS:
                    self.raises(Refused, "holes", call, mesh, value)
        self.assertIn(RING_MESH, HOLED)


class Arcs(Checks):
    def test_by_words(self):
        random = Random(2)
        for mesh in WHOLE:
            for _ in range(4):
                marks = random_marks(random, mesh)
                self.same(module.arcs_of(mesh, marks), arcs_by_words(mesh, marks))
                self.same(module.across_worths(mesh, marks), told_by_words(mesh, marks, 0, 2))
                self.same(module.along_worths(mesh, marks), told_by_words(mesh, marks, 1, 3))

    def test_by_hand(self):
        self.same(module.arcs_of(TRAY, (1, 2, 3, 0)), ((1, 2), (2, 3), (3, 0), (0, 1)))
        self.same(module.across_worths(TRAY, (1, 2, 3, 0)), ((0, (1, 1)), (1, (0, 1)), (2, (0, 1)), (3, (1, 1))))
        self.same(module.along_worths(TRAY, (1, 2, 3, 0)), ((0, (1, 1)), (1, (1, 1)), (2, (0, 1)), (3, (0, 1))))


class Brackets(Checks):
    def test_by_words(self):
        random = Random(3)
        for mesh in WHOLE:
            marks = random_marks(random, mesh)
            across, along = [least_field(mesh, told_by_words(mesh, marks, k, k + 2)) for k in (0, 1)]
            self.same(module.bracket_paper(mesh, marks), (across, along))
            low, high = module.bracket(mesh, marks)
            self.same(low, frac(1 / (2 * worth_of(energy(mesh, along)))))
            self.same(high, frac(2 * worth_of(energy(mesh, across))))
            self.assertLessEqual(worth_of(low), worth_of(high))
            self.assertEqual(swirl(mesh, across, along), (1, 1))
            turned = module.bracket(mesh, marks[1:] + marks[:1])
            self.same(turned, (frac(1 / worth_of(high)), frac(1 / worth_of(low))))
        self.same(module.bracket(TRAY, (1, 2, 3, 0)), ((1, 2), (1, 2)))
        self.same(module.bracket(TRAY, (0, 1, 2, 3)), ((2, 1), (2, 1)))
        self.same(module.bracket_paper(TRAY, (0, 1, 2, 3))[0], ((0, 1), (0, 1), (1, 1), (1, 1)))

    def test_any_two_fields(self):
        random = Random(4)
        for mesh in WHOLE:
            marks = random_marks(random, mesh)
            for _ in range(3):
                across, along = wild_fields(random, mesh, marks)
                self.same(swirl(mesh, across, along), (1, 1))
                self.assertGreaterEqual(4 * worth_of(energy(mesh, across)) * worth_of(energy(mesh, along)), 1)

    def test_two_meshes_of_one_plate(self):
        random = Random(5)
        for mesh in WHOLE:
            marks = random_marks(random, mesh)
            others = [mesh, settled(mesh), shaken(mesh, 5, 6)]
            for _ in range(3):
                point = random.choice((border_place(random, mesh), place_in_triangle(random, mesh, random.choice(mesh.triangles))))
                if point not in others[-1].points:
                    others.append(put_in(random.choice(others[:3]), point))
            rows = [[worth_of(one) for one in module.bracket(other, marks)] for other in others]
            self.assertLessEqual(max(low for low, _ in rows), min(high for _, high in rows))

    def test_flips_and_points_bring_no_end_farther_out(self):
        random = Random(6)
        nearer = 0
        for mesh in WHOLE:
            marks = random_marks(random, mesh)
            low, high = [worth_of(one) for one in module.bracket(mesh, marks)]
            done = settling(mesh)
            point = place_in_triangle(random, mesh, random.choice(mesh.triangles))
            for other in [run_flips(mesh, done[:k + 1]) for k in range(len(done))] + [put_in(mesh, point)] * (point not in mesh.points):
                less, more = [worth_of(one) for one in module.bracket(other, marks)]
                self.assertTrue(low <= less <= more <= high)
                nearer += less > low or more < high
        self.assertGreater(nearer, 10)

    def test_longer_arcs(self):
        random = Random(7)
        moved = 0
        for mesh in WHOLE:
            marks = random_marks(random, mesh)
            first, second, third, fourth = arcs_by_words(mesh, marks)
            longer = (marks[0], random.choice(second[:-1]), marks[2], random.choice(fourth[:-1]))
            moved += longer != marks
            before = [worth_of(one) for one in module.bracket(mesh, marks)]
            behind = [worth_of(one) for one in module.bracket(mesh, longer)]
            self.assertTrue(before[0] <= behind[0] and before[1] <= behind[1])
        self.assertGreater(moved, 5)


class Checking(Checks):
    def test_by_words(self):
        random = Random(8)
        for mesh in WHOLE:
            marks = random_marks(random, mesh)
            for pair in (module.bracket_paper(mesh, marks), wild_fields(random, mesh, marks)):
                low, high = 1 / (2 * worth_of(energy(mesh, pair[1]))), 2 * worth_of(energy(mesh, pair[0]))
                for down in (-1, 0, frac(1, 99)):
                    for up in (1, 0, frac(-1, 99)):
                        bounds = [frac(one + (worth_of(more) if isinstance(more, tuple) else more)) for one, more in ((low, down), (high, up))]
                        expected = isinstance(down, int) and isinstance(up, int)
                        self.assertIs(module.check_bracket(mesh, marks, *bounds, pair), expected)
                bounds = frac(low), frac(high)
                for k in (0, 1):
                    told = dict(module.across_worths(mesh, marks) if k == 0 else module.along_worths(mesh, marks))
                    point = random.choice(list(told))
                    field = tuple((2, 1) if n == point else one for n, one in enumerate(pair[k]))
                    wrong = (field, pair[1]) if k == 0 else (pair[0], field)
                    self.assertIs(module.check_bracket(mesh, marks, (0, 1), (10 ** 9, 1), wrong), False)
                self.assertIs(module.check_bracket(mesh, marks, *bounds, pair), True)
                self.assertIs(module.check_bracket(mesh, marks, *bounds, pair[::-1]), False)

    def test_any_value(self):
        for mesh, marks in ((TRAY, (1, 2, 3, 0)), (FAN, (0, 1, 2, 3))):
            right = module.bracket_paper(mesh, marks)
            low, high = module.bracket(mesh, marks)
            self.assertIs(module.check_bracket(mesh, marks, low, high, right), True)
            for value in ANY + tuple(spoiled(right)):
                self.assertIs(module.check_bracket(mesh, marks, low, high, value), False, value)
            self.assertIs(module.check_bracket(mesh, marks, (-5, 1), (10 ** 20, 1), list(right)), False)
            for value in spoiled(right):
                found = module.check_bracket(mesh, marks, (-5, 1), (10 ** 20, 1), value)
                fields = isinstance(value, tuple) and len(value) == 2 and all(
                    isinstance(row, tuple) and len(row) == len(mesh.points) and all(is_right_fraction(one) for one in row) for row in value)
                self.assertIs(found, fields and all(value[k][n] == worth for k, told in enumerate(
                    (module.across_worths(mesh, marks), module.along_worths(mesh, marks))) for n, worth in told))
