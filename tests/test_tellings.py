"""[75] and [76] Tellings."""

from fractions import Fraction
from random import Random

from leastfield import tellings
from leastfield.energy import energy
from leastfield.errors import InvalidWorths, Refused
from leastfield.field import least_field
from leastfield.first import first_mesh
from leastfield.flips import settled
from leastfield.points import is_point
from leastfield.putting import put_in
from tests.checks import Checks
from tests.grown import grown
from tests.samples import ANY, SQUARE, STRAIGHT, WINDOW, at, frac, spoiled, worth_of, xy
from tests.test_field import is_right_fraction
from tests.told import SOME, TELLINGS, corners, random_place, random_telling, sides, where

ONE, TWO = (1, 1), (2, 1)


def are_pairs(value, is_first):
    if not isinstance(value, tuple):
        return False
    return all(isinstance(one, tuple) and len(one) == 2 and is_first(one[0]) and is_right_fraction(one[1]) for one in value)


def ascends(row):
    return all(one < other for one, other in zip(row, row[1:]))


def wrong_part(plate, value):
    """What InvalidWorths tells by the words of [75], None for a telling."""
    if not isinstance(value, tuple) or len(value) != 3:
        return -1
    told, on, knots = value
    many = len(corners(plate))
    if not are_pairs(told, lambda k: type(k) is int and 0 <= k < many) or not ascends([k for k, _ in told]):
        return 0
    if not isinstance(on, tuple) or any(type(k) is not int or not 0 <= k < many for k in on) or not ascends(on):
        return 1
    if any(end not in dict(told) for k in on for end in sides(plate)[k]):
        return 1
    if not are_pairs(knots, is_point) or not ascends([point for point, _ in knots]):
        return 2
    places = [where(plate, point) for point, _ in knots]
    if any(place[0] in ("corner", "outside") or (place[0] == "side" and place[1] in on) for place in places):
        return 2
    return None


def worth_by_words(plate, telling, point):
    told, on, knots = [dict(telling[0]), telling[1], dict(telling[2])]
    place = where(plate, point)
    if place[0] == "corner":
        return told.get(place[1])
    if place[0] == "side" and place[1] in on:
        one, other = sides(plate)[place[1]]
        a, b, p = corners(plate)[one], corners(plate)[other], xy(point)
        k = 0 if a[0] != b[0] else 1
        part = Fraction(p[k] - a[k]) / (b[k] - a[k])
        return frac((1 - part) * worth_of(told[one]) + part * worth_of(told[other]))
    return knots.get(point)


def mesh_for(plate, telling, seed):
    """A mesh of a plate with the told knots, and some points more."""
    mesh = grown(plate, seed, 4)
    for point, _ in telling[2]:
        if point not in mesh.points:
            mesh = put_in(mesh, point)
    return mesh


class Needs(Checks):
    def need(self, plate, value):
        wrong = wrong_part(plate, value)
        if wrong is None:
            self.assertIsNone(tellings.need_telling(plate, value))
        else:
            self.raises(InvalidWorths, wrong, tellings.need_telling, plate, value)
        return wrong

    def test_right_and_changed_ones(self):
        seen = {}
        for plate, telling in TELLINGS:
            self.assertIsNone(self.need(plate, telling))
            told, on, knots = telling
            changed = [(told, on, knots[::-1]), (told[::-1], on, knots), (told, on[::-1], knots), (told, on, knots + knots[-1:]),
                       (told + told[-1:], on, knots), (told, on + on[-1:], knots), (told[1:], on, knots), (told, on, ()),
                       (told, (), knots), ((), on, knots), (told, tuple(range(len(corners(plate)))), knots), (list(told), on, knots),
                       (told, list(on), knots), (told, on, list(knots)), telling + ((),), telling[:2], list(telling),
                       (told + ((len(corners(plate)), (0, 1)),), on, knots), (told, on + (len(corners(plate)),), knots),
                       (told, on, ((at(*corners(plate)[0]), ONE),)), (told, on, ((at(3000, 1), ONE),))]
            changed += [(told, on, ((at(*[Fraction(a + b, 2) for a, b in zip(corners(plate)[one], corners(plate)[other])]), ONE),))
                        for one, other in sides(plate)]
            for value in changed:
                wrong = self.need(plate, value)
                seen[wrong] = seen.get(wrong, 0) + 1
        self.assertEqual(set(seen), {None, -1, 0, 1, 2})

    def test_any_value(self):
        for value in ANY:
            for other in (value, (value, value, value), ((), (), value), ((), value, ()), (value, (), ()), (((0, value),), (), ()),
                          ((), (), ((value, ONE),)), ((), (), ((at(1, 1), value),)), (((value, ONE),), (), ())):
                self.need(SQUARE, other)

    def test_spoiled_ones(self):
        telling = (((0, (0, 1)), (1, ONE), (3, (1, 2))), (0, 3), ((at(1, 1), ONE), (at(4, 2), TWO)))
        self.assertIsNone(self.need(SQUARE, telling))
        for value in spoiled(telling):
            self.need(SQUARE, value)

    def test_the_first_one_is_told(self):
        need = tellings.need_telling
        told = ((0, ONE), (1, TWO))
        knot = ((at(2, 2), ONE),)
        rows = [(-1, None), (-1, (told, (0,))), (0, (None, None, None)), (0, (((True, ONE),), (), ())), (0, (((4, ONE),), (9,), 1)),
                (1, (told, None, None)), (1, (told, (1,), knot)), (1, (told, (0, 0), None)), (1, (told, (False,), ())), (1, (told, (-1,), ())),
                (2, (told, (0,), None)), (2, (told, (0,), ((at(2, 0), ONE),))), (2, (told, (), ((at(0, 0), ONE),))),
                (2, ((), (), ((at(4, 4), ONE),))), (2, (told, (), ((at(5, 0), ONE),))), (2, (told, (), knot + knot)),
                (2, (told, (), ((at(2, 2), (2, 4)),))), (2, (told, (), (((2, 2), ONE),))), (2, (told, (), ((at(3, 1), ONE), (at(1, 1), ONE))))]
        for wrong, value in rows:
            self.raises(InvalidWorths, wrong, need, SQUARE, value)
        for value in (((), (), ()), (told, (), ((at(2, 0), ONE),)), (told, (0,), ((at(1, 1), ONE), (at(4, 2), TWO))), (told, (0,), ())):
            self.assertIsNone(need(SQUARE, value))
        # Inside a hole is outside of the plate, on its side is not.
        self.raises(InvalidWorths, 2, need, WINDOW, ((), (), ((at(3, 3), ONE),)))
        self.assertIsNone(need(WINDOW, ((), (), ((at(2, 3), ONE),))))
        self.raises(InvalidWorths, 2, need, WINDOW, (((4, ONE), (5, ONE)), (4,), ((at(2, 3), ONE),)))
        self.assertIsNone(need(WINDOW, (((4, ONE), (7, ONE)), (7,), ())))


class Worths(Checks):
    def test_told_worths(self):
        random = Random(1)
        kinds = {}
        for plate, telling in TELLINGS:
            points = [random_place(random, plate) for _ in range(20)] + [point for point, _ in telling[2]]
            for point in points + [at(*corner) for corner in corners(plate)]:
                place = where(plate, point)
                if place != ("outside",):
                    expected = worth_by_words(plate, telling, point)
                    kinds[(place[0], expected is None)] = True
                    self.same(tellings.told_worth(plate, telling, point), expected)
        self.assertEqual(len(kinds), 6)
        telling = (((0, (0, 1)), (1, (3, 1))), (0,), ((at(1, 1), (5, 1)),))
        self.same(tellings.told_worth(SQUARE, telling, at(1, 0)), (3, 4))
        self.same(tellings.told_worth(SQUARE, telling, at(1, 1)), (5, 1))
        self.same(tellings.told_worth(SQUARE, telling, at(0, 1)), None)
        self.same(tellings.told_worth(SQUARE, telling, at(4, 0)), (3, 1))
        self.same(tellings.told_worth(SQUARE, telling, at(4, 4)), None)

    def test_straight_corners_part_sides(self):
        telling = (((0, (0, 1)), (1, (3, 1)), (2, (0, 1))), (0,), ())
        self.same(tellings.told_worth(STRAIGHT, telling, at(1, 0)), (3, 2))
        self.same(tellings.told_worth(STRAIGHT, telling, at(2, 0)), (3, 1))
        self.same(tellings.told_worth(STRAIGHT, telling, at(3, 0)), None)

    def test_worths_of_meshes(self):
        for seed, (plate, telling) in enumerate(TELLINGS):
            mesh = mesh_for(plate, telling, seed)
            expected = [(k, worth_by_words(plate, telling, point)) for k, point in enumerate(mesh.points)]
            self.same(tellings.worths_of(plate, telling, mesh), tuple(pair for pair in expected if pair[1] is not None))
            self.same(tellings.worths_of(plate, ((), (), ()), mesh), ())


class Sums(Checks):
    def test_times(self):
        for plate, telling in TELLINGS:
            for often in ((0, 1), (1, 1), (-3, 2)):
                done = tellings.times_telling(telling, often)
                self.assertIsNone(tellings.need_telling(plate, done))
                grow = lambda row: tuple((key, frac(worth_of(one) * worth_of(often))) for key, one in row)
                self.same(done, (grow(telling[0]), telling[1], grow(telling[2])))

    def test_sums(self):
        random = Random(2)
        for plate, telling in TELLINGS:
            other = tuple(tuple((key, frac(random.randint(-9, 9), 7)) for key, _ in row) for row in (telling[0], telling[2]))
            other = (other[0], telling[1], other[1])
            add = lambda row, more: tuple((key, frac(worth_of(one) + worth_of(two))) for (key, one), (_, two) in zip(row, more))
            expected = (add(telling[0], other[0]), telling[1], add(telling[2], other[2]))
            self.same(tellings.sum_of_tellings(telling, other), expected)
            for part in (0, 1, 2):
                if telling[part]:
                    less = other[:part] + (other[part][1:],) + other[part + 1:]
                    self.raises(Refused, "told", tellings.sum_of_tellings, telling, less)
                    self.raises(Refused, "told", tellings.sum_of_tellings, less, telling)
        one, two = (((0, ONE),), (), ()), (((1, ONE),), (), ())
        self.raises(Refused, "told", tellings.sum_of_tellings, one, two)
        self.raises(Refused, "told", tellings.sum_of_tellings, ((), (), ((at(1, 1), ONE),)), ((), (), ((at(1, 2), ONE),)))
        self.same(tellings.sum_of_tellings(one, one), (((0, TWO),), (), ()))
        self.same(tellings.sum_of_tellings(((), (), ()), ((), (), ())), ((), (), ()))

    def test_sums_give_sums_of_fields(self):
        for seed, (plate, telling) in enumerate(TELLINGS[::3]):
            mesh = mesh_for(plate, telling, seed)
            often = tellings.times_telling(telling, (2, 3))
            both = tellings.sum_of_tellings(telling, often)
            worths = [tellings.worths_of(plate, one, mesh) for one in (telling, often, both)]
            if worths[0]:
                one, two, three = [least_field(mesh, row) for row in worths]
                self.same(three, tuple(frac(worth_of(a) + worth_of(b)) for a, b in zip(one, two)))
                self.same(two, tuple(frac(worth_of(a) * Fraction(2, 3)) for a in one))


class ToldBy(Checks):
    def by_words(self, plate, telling, other):
        return (set(telling[0]) <= set(other[0]) and set(telling[1]) <= set(other[1])
                and all(worth_by_words(plate, other, point) == worth for point, worth in telling[2]))

    def told_more(self, random, plate, telling):
        """Another telling that tells all of one, and perhaps more."""
        told, on = dict(telling[0]), list(telling[1])
        for k in range(len(corners(plate))):
            if k not in told and random.random() < 0.5:
                told[k] = frac(random.randint(-5, 5))
        knots = dict(telling[2])
        for k, other in sides(plate):
            if k not in on and k in told and other in told and random.random() < 0.6:
                if not any(where(plate, point) == ("side", k) for point in knots):
                    on.append(k)
        return (tuple(sorted(told.items())), tuple(sorted(on)), telling[2])

    def test_by_words(self):
        random = Random(3)
        seen = {True: 0, False: 0}
        for plate, telling in TELLINGS:
            more = self.told_more(random, plate, telling)
            tried = [telling, more, ((), (), ()), random_telling(random, plate), (more[0], more[1], ()), (more[0][1:], (), more[2])]
            for one in tried:
                for other in tried:
                    if wrong_part(plate, one) is None and wrong_part(plate, other) is None:
                        right = self.by_words(plate, one, other)
                        seen[right] += 1
                        self.assertIs(tellings.is_told_by(plate, one, other), right)
            self.assertIs(tellings.is_told_by(plate, telling, more), True)
        self.assertGreater(min(seen.values()), 50)

    def test_knots_on_told_sides(self):
        told = ((0, (0, 1)), (1, (4, 1)))
        for worth, right in (((1, 1), True), ((2, 1), False)):
            one = (told, (), ((at(1, 0), worth),))
            self.assertIs(tellings.is_told_by(SQUARE, one, (told, (0,), ())), right)
            self.assertIs(tellings.is_told_by(SQUARE, one, (told, (), ())), False)
            self.assertIs(tellings.is_told_by(SQUARE, one, one), True)
        self.assertIs(tellings.is_told_by(SQUARE, (told, (0,), ()), (told, (), ())), False)
        self.assertIs(tellings.is_told_by(SQUARE, (told, (), ()), (((0, (0, 1)), (1, (3, 1))), (), ())), False)

    def test_more_told_has_no_less_energy(self):
        random = Random(4)
        for seed, (plate, telling) in enumerate(TELLINGS):
            more = self.told_more(random, plate, telling)
            mesh = settled(mesh_for(plate, telling, seed))
            worths = [tellings.worths_of(plate, one, mesh) for one in (telling, more)]
            if worths[0] and worths[1]:
                one, other = [worth_of(energy(mesh, least_field(mesh, row))) for row in worths]
                self.assertLessEqual(one, other)

    def test_first_meshes(self):
        for plate in SOME:
            telling = (((0, ONE),), (), ())
            self.same(tellings.worths_of(plate, telling, first_mesh(plate)), ((0, ONE),))
