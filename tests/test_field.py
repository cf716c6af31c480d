"""[48] to [50] Told worths, fields, and the field of least energy."""

from fractions import Fraction
from random import Random

from leastfield import field as module
from leastfield.elimination import settled_by
from leastfield.energy import energy, mixed_energy, unit_field
from leastfield.errors import InvalidField, InvalidWorths
from leastfield.networks import network_of
from leastfield.orders import sparing_order
from tests.checks import Checks
from tests.grown import ALL_GROWN, grown, random_worths
from tests.nets import solved
from tests.samples import (ANY, FAN, KITE, MANY_SMALL, MESHES, ONE, RING_MESH, WINDOW, at, frac, random_field, spoiled,
                           worth_of)
from tests.test_flips import SHAKEN

ALL = list(MESHES.values()) + MANY_SMALL[:4] + SHAKEN[6:14] + ALL_GROWN


def is_right_fraction(value):
    """Whether a value is a fraction, by the words of [5]."""
    if not isinstance(value, tuple) or len(value) != 2 or any(type(part) is not int for part in value):
        return False
    return value[1] > 0 and (Fraction(*value).numerator, Fraction(*value).denominator) == value


def wrong_worths(mesh, value):
    """What InvalidWorths tells by the words of [48], None for right ones."""
    if not isinstance(value, tuple):
        return -1
    for k, thing in enumerate(value):
        if not isinstance(thing, tuple) or len(thing) != 2 or type(thing[0]) is not int:
            return k
        if not 0 <= thing[0] < len(mesh.points) or not is_right_fraction(thing[1]):
            return k
        if k and thing[0] <= value[k - 1][0]:
            return k
    return None if value else 0


def wrong_field(mesh, value):
    if not isinstance(value, tuple):
        return -1
    for k, thing in enumerate(value):
        if k == len(mesh.points) or not is_right_fraction(thing):
            return k
    return None if len(value) == len(mesh.points) else len(value)


class Needs(Checks):
    def need(self, error, call, mesh, value, wrong):
        if wrong is None:
            self.assertIsNone(call(mesh, value))
        else:
            self.raises(error, wrong, call, mesh, value)

    def test_worths(self):
        random = Random(1)
        for mesh in (FAN, ONE, RING_MESH):
            for value in ANY:
                self.need(InvalidWorths, module.need_worths, mesh, value, wrong_worths(mesh, value))
            for _ in range(4):
                worths = random_worths(random, mesh)
                self.assertIsNone(module.need_worths(mesh, worths))
                for value in list(spoiled(worths)) + [worths[::-1], worths + worths[-1:], worths + ((99, (0, 1)),)]:
                    self.need(InvalidWorths, module.need_worths, mesh, value, wrong_worths(mesh, value))

    def test_worths_by_hand(self):
        need = module.need_worths
        right = (0, (1, 2))
        for wrong, value in ((-1, [right]), (-1, None), (0, ()), (0, ((True, (0, 1)),)), (0, ((-1, (0, 1)),)), (0, ((5, (0, 1)),)),
                             (0, ((0, (2, 4)),)), (0, ([0, (1, 2)],)), (0, ((0, [1, 2]),)), (0, ((0, None),)), (0, (0, (1, 2))),
                             (1, (right, right)), (1, (right, (5, (0, 1)))), (1, (right, None, None)), (1, (right, (1, 1))),
                             (2, (right, (3, (0, 1)), (2, (0, 1)), None)), (0, ((0, (True, 1)),)), (0, ((0, (0, 1), 1),)),
                             (1, ((4, (0, 1)), (4, (0, 1)))), (0, ((0, "0"),))):
            self.raises(InvalidWorths, wrong, need, FAN, value)
        self.assertIsNone(need(FAN, ((4, (-7, 3)),)))
        self.assertIsNone(need(FAN, tuple((k, (k, 1)) for k in range(5))))

    def test_fields(self):
        random = Random(2)
        for mesh in (FAN, ONE, RING_MESH):
            for value in ANY:
                self.need(InvalidField, module.need_field, mesh, value, wrong_field(mesh, value))
            right = random_field(random, mesh)
            self.assertIsNone(module.need_field(mesh, right))
            for value in list(spoiled(right)) + [right[:k] for k in range(len(right))] + [right + right]:
                self.need(InvalidField, module.need_field, mesh, value, wrong_field(mesh, value))

    def test_fields_by_hand(self):
        one = (1, 2)
        for wrong, value in ((-1, [one] * 3), (-1, None), (-1, "abc"), (0, ()), (2, (one, one)), (3, (one,) * 4), (3, (one,) * 9),
                             (1, (one, (2, 4))), (1, (one, None, one, one)), (0, (1, one, one)), (2, (one, one, [1, 2])),
                             (2, (one, one, (1, True))), (3, (one, one, one, None)), (1, (one, (1, 0), one)),
                             (2, (one, one, (1, -2)))):
            self.raises(InvalidField, wrong, module.need_field, ONE, value)
        self.assertIsNone(module.need_field(ONE, (one, (0, 1), (-3, 1))))


class LeastFields(Checks):
    def test_they_solve_the_rows(self):
        random = Random(3)
        for mesh in ALL:
            network = network_of(mesh)
            for many in (1, 2, None, None, len(mesh.points)):
                worths = random_worths(random, mesh, many)
                expected = solved(network, worths)
                self.same(module.least_field(mesh, worths), tuple(frac(expected[k]) for k in network[0]))

    def test_any_order_of_dropping_tells_the_same(self):
        random = Random(4)
        for mesh in ALL:
            network = network_of(mesh)
            worths = random_worths(random, mesh)
            free = [k for k in network[0] if k not in dict(worths)]
            least = module.least_field(mesh, worths)
            for _ in range(2):
                found = settled_by(network, worths, random.sample(free, len(free)))
                self.same(tuple(worth for _, worth in found), least)
            self.assertEqual(sorted(sparing_order(network, [k for k, _ in worths])), free)

    def test_no_other_field_has_as_little_energy(self):
        random = Random(5)
        for mesh in ALL:
            worths = random_worths(random, mesh, random.randint(1, len(mesh.points) - 1))
            least = module.least_field(mesh, worths)
            free = [k for k in range(len(mesh.points)) if k not in dict(worths)]
            for _ in range(4):
                other = list(least)
                for k in random.sample(free, random.randint(1, len(free))):
                    other[k] = frac(worth_of(other[k]) + random.choice((Fraction(1, 1000), -1, Fraction(5, 3))))
                self.assertGreater(worth_of(energy(mesh, tuple(other))), worth_of(energy(mesh, least)))
                self.assertIs(module.check_field(mesh, worths, tuple(other)), False)

    def test_one_told_worth_is_had_everywhere(self):
        for mesh in (FAN, KITE, RING_MESH):
            self.same(module.least_field(mesh, ((2, (7, 3)),)), ((7, 3),) * len(mesh.points))

    def test_many_points(self):
        random = Random(6)
        for seed in range(3):
            mesh = grown(WINDOW, seed, 32)
            worths = random_worths(random, mesh, 9)
            least = module.least_field(mesh, worths)
            self.assertIs(module.check_field(mesh, worths, least), True)
            self.assertEqual([least[k] for k, _ in worths], [worth for _, worth in worths])


class Flows(Checks):
    def test_they_are_mixed_energies_with_units(self):
        random = Random(7)
        for mesh in ALL:
            field = random_field(random, mesh)
            found = module.flows(mesh, field)
            self.same(found, tuple(mixed_energy(mesh, field, unit_field(mesh, k)) for k in range(len(mesh.points))))
            self.assertEqual(sum(worth_of(one) for one in found), 0)
            half = sum(worth_of(one) * worth_of(worth) for one, worth in zip(found, field)) / 2
            self.same(frac(half), energy(mesh, field))

    def test_none_at_free_points_of_least_fields(self):
        random = Random(8)
        for mesh in ALL:
            worths = random_worths(random, mesh)
            found = module.flows(mesh, module.least_field(mesh, worths))
            for k, much in enumerate(found):
                if k not in dict(worths):
                    self.same(much, (0, 1))


class Checking(Checks):
    def test_of_the_least_one_alone(self):
        random = Random(9)
        for mesh in ALL:
            worths = random_worths(random, mesh)
            least = module.least_field(mesh, worths)
            self.assertIs(module.check_field(mesh, worths, least), True)
            for k, worth in worths:
                other = least[:k] + (frac(worth_of(worth) + 1),) + least[k + 1:]
                self.assertIs(module.check_field(mesh, worths, other), False)
            self.assertIs(module.check_field(mesh, worths, least[:-1]), False)
            self.assertIs(module.check_field(mesh, worths, least + least[:1]), False)

    def test_a_told_worth_that_is_not_had(self):
        # Nothing flows, but the worth is another one.
        self.assertIs(module.check_field(FAN, ((0, (1, 1)),), ((2, 1),) * 5), False)
        self.assertIs(module.check_field(FAN, ((0, (1, 1)),), ((1, 1),) * 5), True)
        self.assertIs(module.check_field(FAN, ((0, (1, 1)), (1, (1, 1))), ((1, 1), (2, 1)) + ((1, 1),) * 3), False)

    def test_any_value(self):
        worths = ((0, (0, 1)), (2, (1, 1)))
        least = module.least_field(FAN, worths)
        for value in ANY + tuple(spoiled(least)):
            self.assertIs(module.check_field(FAN, worths, value), False, value)

    def test_more_energy(self):
        random = Random(10)
        for mesh in ALL:
            worths = random_worths(random, mesh)
            one, other = random_field(random, mesh), random_field(random, mesh)
            expected = worth_of(energy(mesh, other)) - worth_of(energy(mesh, one))
            self.same(module.more_energy(mesh, one, other), frac(expected))
            more = tuple((0, 1) if k in dict(worths) else worth for k, worth in enumerate(one))
            both = tuple(frac(worth_of(a) + worth_of(b)) for a, b in zip(other, more))
            through = sum(worth_of(a) * worth_of(b) for a, b in zip(module.flows(mesh, other), more))
            self.same(module.more_energy(mesh, other, both), frac(through + worth_of(energy(mesh, more))))
        self.same(module.more_energy(KITE, ((0, 1),) * 4, ((1, 1), (0, 1), (1, 1), (0, 1))), (1, 2))
        self.same(module.more_energy(KITE, ((1, 1), (0, 1), (1, 1), (0, 1)), ((0, 1),) * 4), (-1, 2))


class Limits(Checks):
    def test_long_worths(self):
        mesh = MESHES["bent frame"]
        big = 10 ** 59
        worths = ((0, (big + 7, big + 1)), (3, frac(-big, 3)), (5, (big, 1)), (9, (1, big)))
        self.assertEqual(module.need_worths(mesh, worths), None)
        least = module.least_field(mesh, worths)
        self.assertIs(module.check_field(mesh, worths, least), True)
        self.assertIs(module.check_field(mesh, worths, least[:-1] + (at(1, 1)[0],)), False)
