"""[69] How fast fields come near to the least one."""

from fractions import Fraction
from random import Random

from leastfield import cooling as module
from leastfield.errors import InvalidSize
from leastfield.field import flows, least_field
from leastfield.lumps import gap_square
from leastfield.resistance import conductance
from leastfield.warming import steps, with_told
from tests.checks import Checks
from tests.grown import random_worths
from tests.samples import ANY, FAN, KITE, frac, random_field, spoiled, worth_of
from tests.test_field import is_right_fraction
from tests.test_lumps import lumps_by_words
from tests.test_warming import ALL, TIMES


def told_lots(random, mesh):
    """Ascending tuples of points: one, some, all but one, all."""
    numbers = range(len(mesh.points))
    for many in (1, random.randint(1, len(numbers)), len(numbers) - 1, len(numbers)):
        yield tuple(sorted(random.sample(numbers, many)))


def resistances_by_words(mesh, told):
    found = []
    for k in range(len(mesh.points)):
        if k not in told:
            worths = tuple(sorted([(k, (1, 1))] + [(n, (0, 1)) for n in told]))
            found.append((k, frac(1 / worth_of(flows(mesh, least_field(mesh, worths))[k]))))
    return tuple(found)


def slowness_by_words(mesh, told):
    row = lumps_by_words(mesh)
    return sum((row[k] * worth_of(much) for k, much in resistances_by_words(mesh, told)), Fraction(0))


def shrinks_by_words(mesh, told, time):
    slow = slowness_by_words(mesh, told)
    return (slow / (slow + worth_of(time))) ** 2


def bound_by_words(mesh, worths, field, some):
    bound = worth_of(gap_square(mesh, with_told(field, worths), least_field(mesh, worths)))
    for time in some:
        bound *= shrinks_by_words(mesh, tuple(k for k, _ in worths), time)
    return bound


class Slowness(Checks):
    def test_by_words(self):
        random = Random(1)
        for mesh in ALL:
            for told in told_lots(random, mesh):
                rows = resistances_by_words(mesh, told)
                self.same(module.resistances_to(mesh, told), rows)
                for k, much in rows:
                    self.assertEqual(worth_of(much) * worth_of(conductance(mesh, (k,), told)), 1)
                self.same(module.slowness(mesh, told), frac(slowness_by_words(mesh, told)))
                for time in TIMES[:2]:
                    self.same(module.shrinks(mesh, told, time), frac(shrinks_by_words(mesh, told, time)))

    def test_without_free_points(self):
        told = tuple(range(5))
        self.same(module.resistances_to(FAN, told), ())
        self.same(module.slowness(FAN, told), (0, 1))
        self.same(module.shrinks(FAN, told, (1, 3)), (0, 1))
        worths = tuple((k, (k, 1)) for k in range(5))
        self.same(module.gap_bound(FAN, worths, ((9, 1),) * 5, [(1, 1)]), (0, 1))
        self.same(module.steps_enough(FAN, worths, ((9, 1),) * 5, (1, 1), (1, 10 ** 9)), 0)

    def test_by_hand(self):
        # From each other point of the kite to its top.
        self.same(module.resistances_to(KITE, (3,)), ((0, (9, 4)), (1, (4, 1)), (2, (9, 4))))
        self.same(module.slowness(KITE, (3,)), (26, 3))
        self.same(module.shrinks(KITE, (3,), (26, 3)), (1, 4))


class Bounds(Checks):
    def test_gap_bound(self):
        random = Random(2)
        for mesh in ALL:
            for worths in (random_worths(random, mesh, 1), random_worths(random, mesh)):
                field = random_field(random, mesh)
                for many in (0, 1, 3):
                    some = [random.choice(TIMES) for _ in range(many)]
                    expected = frac(bound_by_words(mesh, worths, field, some))
                    self.same(module.gap_bound(mesh, worths, field, some), expected)
                    self.same(module.gap_bound(mesh, worths, field, tuple(some)), expected)

    def test_no_gap_is_above_it(self):
        random = Random(3)
        for mesh in ALL:
            for worths in (random_worths(random, mesh, 1), random_worths(random, mesh, 3)):
                field = random_field(random, mesh)
                some = [random.choice(TIMES) for _ in range(3)]
                least = least_field(mesh, worths)
                gaps = [worth_of(gap_square(mesh, one, least)) for one in steps(mesh, worths, field, some)]
                for k, gap in enumerate(gaps):
                    self.assertLessEqual(gap, worth_of(module.gap_bound(mesh, worths, field, some[:k])))
                told = tuple(k for k, _ in worths)
                for before, behind, time in zip(gaps, gaps[1:], some):
                    self.assertLessEqual(behind, before * worth_of(module.shrinks(mesh, told, time)))

    def test_steps_enough(self):
        random = Random(4)
        found = set()
        for mesh in ALL:
            worths, field = random_worths(random, mesh, random.randint(2, 4)), random_field(random, mesh)
            start = bound_by_words(mesh, worths, field, ())
            for time in ((99, 1), (20, 3), (1, 1)):
                part = shrinks_by_words(mesh, tuple(k for k, _ in worths), time)
                for small in (start, start / 2, start / 100, start * part, start * part ** 2 + Fraction(1, 10 ** 6), start * 2):
                    if start == 0 or (part > Fraction(9, 10) and small * 3 < start):
                        continue
                    many, bound = 0, start
                    while bound > small:
                        many, bound = many + 1, bound * part
                    self.same(module.steps_enough(mesh, worths, field, time, frac(small)), many)
                    found.add(many)
        self.assertTrue({0, 1, 2} <= found and max(found) > 5, found)

    def test_many_steps(self):
        many = module.steps_enough(FAN, ((0, (0, 1)),), ((0, 1), (1, 1), (2, 1), (-7, 3), (5, 2)), (3, 1), (1, 10 ** 12))
        self.assertTrue(50 < many <= 200, many)
        bound = module.gap_bound(FAN, ((0, (0, 1)),), ((0, 1), (1, 1), (2, 1), (-7, 3), (5, 2)), [(3, 1)] * many)
        before = module.gap_bound(FAN, ((0, (0, 1)),), ((0, 1), (1, 1), (2, 1), (-7, 3), (5, 2)), [(3, 1)] * (many - 1))
        self.assertTrue(worth_of(bound) <= Fraction(1, 10 ** 12) < worth_of(before))

    def test_any_small(self):
        for value in ANY + tuple(spoiled((1, 3))) + ((0, 1), (-1, 3), (2, 6), 1, "1/3"):
            if is_right_fraction(value) and value[0] > 0:
                continue
            self.raises(InvalidSize, "small", module.steps_enough, FAN, ((0, (0, 1)),), ((1, 1),) * 5, (1, 1), value)
