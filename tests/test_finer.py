"""[55] and [56] Knots put into settled meshes."""

from fractions import Fraction
from random import Random

from leastfield import finer as module
from leastfield.energy import energy
from leastfield.errors import InvalidPoint, Refused
from leastfield.field import least_field
from leastfield.flips import cells, failing, flipped, settled
from leastfield.meshes import Mesh, borders_of, inner_edges, plate_of, renumbered
from leastfield.places import place_of
from leastfield.putting import put_in
from tests.checks import Checks
from tests.grown import GROWN, TORN, place_in_triangle, random_worths
from tests.samples import (ANY, FAN, KITE, MANY_SMALL, MESHES, ONE, RING_MESH, SQUARE, WINDOW, at, cross, frac, random_frac,
                           scalar, spoiled, worth_of, xy)
from tests.test_places import some_points
from tests.test_studio import is_right_point

ALL = [MESHES[name] for name in ("kite", "steep", "fan", "one", "dart", "ring", "cell", "frame", "bent block")] + GROWN + TORN
WORK = Mesh((at(0, 0), at(4, 0), at(1, 1)), ((0, 1, 2),))
WORTHS = ((0, (0, 1)), (2, (1, 1)))
CALLS = (module.finer, module.finer_rows, module.fall)


def told_by_words(mesh, worths, point):
    """The worth of a told knot, None if it is none: a border edge of two told ends has it within."""
    told, p = dict(worths), xy(point)
    for a, b in borders_of(mesh):
        q, r = xy(mesh.points[a]), xy(mesh.points[b])
        if cross(q, r, p) == 0 and scalar(p, q, r) < 0 and a in told and b in told:
            part = Fraction(scalar(q, r, p)) / scalar(q, r, r)
            return frac(worth_of(told[a]) + part * (worth_of(told[b]) - worth_of(told[a])))
    return None


def stages_by_words(mesh, worths, knots):
    """The pairs of mesh and told worths behind each knot; a word for the first one that is wrong when it comes."""
    mesh = settled(mesh)
    stages = [(mesh, worths)]
    for point, told in knots:
        kind = place_of(mesh, point)[0]
        if kind in ("corner", "outside"):
            return kind
        if told:
            worth = told_by_words(mesh, worths, point)
            if worth is None:
                return "told"
            worths = worths + ((len(mesh.points), worth),)
        mesh = settled(put_in(mesh, point))
        stages.append((mesh, worths))
    return stages


def border_place(random, mesh):
    """A point within a border edge."""
    a, b = random.choice(borders_of(mesh))
    part = Fraction(random.randint(1, 5), 6)
    return at(*[p + part * (q - p) for p, q in zip(xy(mesh.points[a]), xy(mesh.points[b]))])


def random_knots(random, mesh, many):
    """Knots, right and wrong: some told, some on the border."""
    knots = []
    for _ in range(many):
        kind = random.randint(0, 7)
        if kind < 3:
            knots.append((border_place(random, mesh), random.random() < 0.6))
        elif kind < 7:
            knots.append((place_in_triangle(random, mesh, random.choice(mesh.triangles)), random.random() < 0.1))
        else:
            there = list(mesh.points) + [point for point, _ in knots]
            outside = list(some_points(mesh, random.randint(0, 99)))
            knots.append((random.choice(random.choice((there, outside))), random.random() < 0.3))
    return tuple(knots)


def right_knots(random, mesh, worths, many):
    """Knots none of which is wrong when it comes, one by one."""
    knots = ()
    for _ in range(20 * many):
        more = knots + random_knots(random, mesh, 1)
        if len(knots) < many and not isinstance(stages_by_words(mesh, worths, more), str):
            knots = more
    return knots


def wrong_knot(value):
    """What InvalidPoint tells by the words of [55]."""
    if not isinstance(value, tuple):
        return -1
    for k, thing in enumerate(value):
        if not isinstance(thing, tuple) or len(thing) != 2 or not is_right_point(thing[0]) or type(thing[1]) is not bool:
            return k
    return None


class Needs(Checks):
    def test_any_value(self):
        right = ((at(1, 1), True), (at(2, Fraction(1, 2)), False))
        for value in ANY + tuple(spoiled(right)) + ((at(1, 1), True), ((at(1, 1), 1),), ((at(1, 1), 0),), ([at(1, 1), True],),
                                                    ((at(1, 1), False, None),), ((at(1, 1),),), right + (None,), right + right):
            wrong = wrong_knot(value)
            if wrong is None:
                self.assertIsNone(module.need_knots(value))
                continue
            self.raises(InvalidPoint, wrong, module.need_knots, value)
            for call in CALLS:
                self.raises(InvalidPoint, wrong, call, WORK, WORTHS, value)
            self.raises(InvalidPoint, wrong, module.check_finer, WORK, WORTHS, value, None)
        self.assertIsNone(module.need_knots(()))
        self.raises(InvalidPoint, 1, module.need_knots, ((at(1, 1), True), (at(1, 1), None), None))

    def test_wrong_kinds_come_ahead_of_wrong_places(self):
        for call in CALLS:
            self.raises(InvalidPoint, 1, call, WORK, WORTHS, ((at(9, 9), False), (at(1, 1), 0)))


class Finer(Checks):
    def test_by_words(self):
        random = Random(1)
        words = {}
        for mesh in ALL:
            for many in (None, None, 99, 99, 99):
                worths = random_worths(random, mesh, many)
                knots = random_knots(random, mesh, random.randint(0, 4))
                stages = stages_by_words(mesh, worths, knots)
                if isinstance(stages, str):
                    words[stages] = words.get(stages, 0) + 1
                    for call in CALLS:
                        self.raises(Refused, stages, call, mesh, worths, knots)
                    continue
                behind, told = module.finer(mesh, worths, knots)
                self.same((behind.points, behind.triangles), (stages[-1][0].points, stages[-1][0].triangles))
                self.same(told, stages[-1][1])
                words["told knots"] = words.get("told knots", 0) + len(told) - len(worths)
        self.assertEqual(set(words), {"corner", "outside", "told", "told knots"})
        self.assertGreater(min(words.values()), 5, words)

    def test_by_hand(self):
        mesh, worths = module.finer(WORK, WORTHS, ((at(Fraction(1, 2), Fraction(1, 2)), True),))
        self.same(worths, ((0, (0, 1)), (2, (1, 1)), (3, (1, 2))))
        self.same(mesh.points[3:], (at(Fraction(1, 2), Fraction(1, 2)),))
        self.same(module.finer(WORK, WORTHS, ())[1], WORTHS)
        # The first knot takes a told end away from the second one, or brings one.
        first, second = at(Fraction(1, 2), Fraction(1, 2)), at(Fraction(1, 4), Fraction(1, 4))
        self.raises(Refused, "told", module.finer, WORK, WORTHS, ((first, False), (second, True)))
        self.same(module.finer(WORK, WORTHS, ((first, True), (second, True)))[1][2:], ((3, (1, 2)), (4, (1, 4))))
        self.raises(Refused, "corner", module.finer, WORK, WORTHS, ((first, True), (first, True)))
        self.raises(Refused, "told", module.finer, WORK, WORTHS, ((at(2, 0), True),))
        self.raises(Refused, "told", module.finer, WORK, WORTHS, ((at(2, Fraction(1, 2)), True),))
        self.raises(Refused, "outside", module.finer, WORK, WORTHS, ((at(2, 2), True), (at(0, 0), True)))
        self.raises(Refused, "corner", module.finer, WORK, WORTHS, ((at(0, 0), True),))
        # An inner edge with two told ends.
        self.raises(Refused, "told", module.finer, KITE, ((0, (0, 1)), (2, (1, 1))), ((at(0, 0), True),))

    def test_it_begins_settled(self):
        for mesh in TORN:
            behind, worths = module.finer(mesh, ((0, (3, 2)),), ())
            self.assertEqual(behind, settled(mesh))
            self.same(worths, ((0, (3, 2)),))


class Falls(Checks):
    def test_never_below_zero(self):
        random = Random(2)
        above = 0
        for mesh in ALL:
            worths = random_worths(random, mesh, random.randint(1, 4))
            knots = right_knots(random, mesh, worths, 3)
            first, last = settled(mesh), module.finer(mesh, worths, knots)
            expected = worth_of(energy(first, least_field(first, worths))) - worth_of(energy(last[0], least_field(*last)))
            found = module.fall(mesh, worths, knots)
            self.same(found, frac(expected))
            self.assertGreaterEqual(expected, 0)
            above += expected > 0
            self.same(module.fall(mesh, worths, ()), (0, 1))
        self.assertGreater(above, 15)
        self.same(module.fall(WORK, WORTHS, ((at(1, 0), False),)), (3, 10))

    def test_parts(self):
        random = Random(3)
        kinds = {}
        for mesh in ALL:
            worths = random_worths(random, mesh, random.randint(1, 5))
            for point in [place_in_triangle(random, mesh, mesh.triangles[0]), border_place(random, mesh),
                          random.choice(list(some_points(mesh, 3)))]:
                kind = place_of(settled(mesh), point)[0]
                if kind in ("corner", "outside"):
                    self.raises(Refused, kind, module.fall_parts, mesh, worths, point)
                    continue
                first, second = module.fall_parts(mesh, worths, point)
                self.assertGreaterEqual(first[0], 0)
                self.assertGreaterEqual(second[0], 0)
                self.same(frac(worth_of(first) + worth_of(second)), module.fall(mesh, worths, ((point, False),)))
                kinds[first[0] > 0, second[0] > 0] = kinds.get((first[0] > 0, second[0] > 0), 0) + 1
                behind = settled(put_in(settled(mesh), point))
                old, new = least_field(settled(mesh), worths), least_field(behind, worths)
                longer = old + (module.field_put(settled(mesh), old, point)[-1],)
                gap = tuple(frac(worth_of(a) - worth_of(b)) for a, b in zip(longer, new))
                self.same(second, energy(behind, gap))
                self.same(first, frac(worth_of(energy(settled(mesh), old)) - worth_of(energy(behind, longer))))
        self.assertEqual(set(kinds) >= {(True, True), (False, False)}, True)
        self.same(module.fall_parts(WORK, WORTHS, at(1, 0)), ((0, 1), (3, 10)))

    def test_all_orders(self):
        random = Random(4)
        tried = 0
        for mesh in ALL:
            worths = random_worths(random, mesh, random.randint(2, 5))
            knots = right_knots(random, mesh, worths, 4)
            if len(knots) < 2:
                continue
            one, told = module.finer(mesh, worths, knots)
            for _ in range(3):
                order = random.sample(range(len(knots)), len(knots))
                others = tuple(knots[k] for k in order)
                if isinstance(stages_by_words(mesh, worths, others), str):
                    continue
                tried += 1
                other, more = module.finer(mesh, worths, others)
                row = tuple(range(len(mesh.points))) + tuple(len(mesh.points) + order.index(k) for k in range(len(knots)))
                self.assertEqual(settled(renumbered(other, row)), one)
                first, second = least_field(one, told), least_field(other, more)
                self.same(energy(one, first), energy(other, second))
                self.assertEqual(dict(zip(one.points, first)), dict(zip(other.points, second)))
                self.same(module.fall(mesh, worths, others), module.fall(mesh, worths, knots))
        self.assertGreater(tried, 20)


class Rows(Checks):
    def test_rows(self):
        random = Random(5)
        for mesh in ALL[::2]:
            worths = random_worths(random, mesh)
            knots = right_knots(random, mesh, worths, 3)
            rows = module.finer_rows(mesh, worths, knots)
            stages = stages_by_words(mesh, worths, knots)
            self.assertEqual(len(rows), len(stages))
            for (one, told, field, much), (other, expected) in zip(rows, stages):
                self.same((one.points, one.triangles, told), (other.points, other.triangles, expected))
                self.same(field, least_field(other, expected))
                self.same(much, energy(other, field))
            falls = [worth_of(row[3]) for row in rows]
            self.assertEqual(falls, sorted(falls, reverse=True))
            self.assertIs(module.check_finer(mesh, worths, knots, rows), True)

    def changed(self, rows):
        """Rows with one thing wrong each."""
        for k, (mesh, worths, field, much) in enumerate(rows):
            more = frac(worth_of(much) + 1)
            point, worth = worths[-1]
            for row in ((mesh, worths, field, more), (mesh, worths, field[:-1] + (random_frac(Random(k), 99),), much),
                        (mesh, worths[:-1], field, much), (mesh, worths[:-1] + ((point, frac(worth_of(worth) + 1)),), field, much),
                        (mesh, worths, tuple(frac(worth_of(one) + 1) for one in field), much),
                        (renumbered(mesh, tuple(range(len(mesh.points)))[::-1]), worths, field, much), (mesh, worths, field)):
                yield rows[:k] + (row,) + rows[k + 1:]
            yield rows[:k] + rows[k + 1:]
            yield rows[:k] + (rows[k],) + rows[k:]
        if len(rows) > 1:
            yield rows[::-1]

    def test_changed_rows(self):
        random = Random(6)
        for mesh in ALL[::3]:
            worths = random_worths(random, mesh, 3)
            knots = right_knots(random, mesh, worths, 2)
            rows = module.finer_rows(mesh, worths, knots)
            for value in self.changed(rows):
                self.assertIs(module.check_finer(mesh, worths, knots, value), False)

    def test_diagonals_on_one_circle(self):
        mesh = MESHES["cell"]
        worths = ((0, (0, 1)), (1, (1, 1)))
        rows = module.finer_rows(mesh, worths, ())
        (edge,) = inner_edges(rows[0][0])
        other = flipped(rows[0][0], edge)
        self.assertNotEqual(other, rows[0][0])
        self.assertIs(module.check_finer(mesh, worths, (), ((other,) + rows[0][1:],)), True)
        knots = ((at(2, 1), False), (at(2, 3), False))
        rows = module.finer_rows(mesh, worths, knots)
        self.assertIs(module.check_finer(mesh, worths, knots, rows), True)
        turned = 0
        for k, row in enumerate(rows):
            for edge in inner_edges(row[0]):
                try:
                    other = flipped(row[0], edge)
                except Refused:
                    continue
                value = rows[:k] + ((other,) + row[1:],) + rows[k + 1:]
                turned += not failing(other)
                self.assertIs(module.check_finer(mesh, worths, knots, value), not failing(other))
        self.assertGreater(turned, 0)
        self.assertTrue(any(len(cell) > 3 for cell in cells(rows[0][0])))

    def test_meshes_that_do_not_pass(self):
        mesh = MESHES["steep"]
        worths = ((0, (0, 1)), (1, (1, 1)))
        (row,) = module.finer_rows(mesh, worths, ())
        field = least_field(mesh, worths)
        self.assertIs(module.check_finer(mesh, worths, (), ((mesh, worths, field, energy(mesh, field)),)), False)
        self.assertIs(module.check_finer(mesh, worths, (), (row,)), True)

    def test_another_plate(self):
        worths = ((0, (0, 1)),)
        (row,) = module.finer_rows(MESHES["dart"], worths, ())
        self.assertIs(module.check_finer(MESHES["kite"], worths, (), (row,)), False)
        # The same points, but a bay is filled.
        self.assertEqual(plate_of(row[0]).outer, ((0, 0), (6, 0), (2, 2), (0, 6)))
        full = Mesh(row[0].points, row[0].triangles + ((1, 3, 2),))
        field = least_field(full, worths)
        self.assertIs(module.check_finer(MESHES["dart"], worths, (), ((full, worths, field, energy(full, field)),)), False)

    def test_wrong_knots_have_no_rows(self):
        for knots in (((at(0, 0), False),), ((at(9, 9), False),), ((at(2, 0), True),), ((at(1, 0), False), (at(1, 0), False))):
            for value in ANY + (module.finer_rows(WORK, WORTHS, ()), module.finer_rows(WORK, WORTHS, ((at(1, 0), False),)),
                                module.finer_rows(WORK, WORTHS, ((at(1, 0), False), (at(2, 0), False)))):
                self.assertIs(module.check_finer(WORK, WORTHS, knots, value), False)

    def test_any_value(self):
        knots = ((at(Fraction(1, 2), Fraction(1, 2)), True),)
        right = module.finer_rows(WORK, WORTHS, knots)
        self.assertIs(module.check_finer(WORK, WORTHS, knots, right), True)
        for value in ANY + tuple(spoiled(right)):
            self.assertIs(module.check_finer(WORK, WORTHS, knots, value), False, value)
        (mesh, *rest) = right[1]
        for other in (Mesh(list(mesh.points), mesh.triangles), Mesh(mesh.points, list(mesh.triangles)), Mesh(mesh.points, None),
                      Mesh(mesh.points[:3], mesh.triangles), Mesh(mesh.points, mesh.triangles[:1]), FAN, ONE, RING_MESH, SQUARE, WINDOW):
            self.assertIs(module.check_finer(WORK, WORTHS, knots, (right[0], (other, *rest))), False)


class Limits(Checks):
    def test_many_knots(self):
        random = Random(7)
        mesh = MESHES["ring"]
        worths = ((0, (0, 1)), (4, (1, 1)))
        knots = right_knots(random, mesh, worths, 8)
        rows = module.finer_rows(mesh, worths, knots)
        self.assertEqual(len(rows), 9)
        self.assertIs(module.check_finer(mesh, worths, knots, rows), True)

    def test_some_small(self):
        for mesh in MANY_SMALL[:3]:
            self.same(module.fall(mesh, ((0, (1, 1)),), ()), (0, 1))
