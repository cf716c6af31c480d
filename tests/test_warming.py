"""[66] to [68] Steps of time."""

from fractions import Fraction
from random import Random

from leastfield import warming as module
from leastfield.bounds import is_calm
from leastfield.elimination import settled_worths
from leastfield.energy import energy
from leastfield.errors import InvalidSize
from leastfield.field import flows, least_field
from leastfield.lumps import gap_square, lumps, warmth
from leastfield.networks import is_network, network_of
from tests.checks import Checks
from tests.grown import ALL_GROWN, random_worths
from tests.nets import solved
from tests.samples import ANY, FAN, KITE, MANY_SMALL, MESHES, at, block, frac, grid_mesh, random_field, random_frac, spoiled, worth_of
from tests.test_field import is_right_fraction
from tests.test_lumps import lumps_by_words

ALL = [mesh for mesh in list(MESHES.values()) + MANY_SMALL[:3] + ALL_GROWN if len(mesh.points) <= 12]
CELL = grid_mesh(block(1, 1), 0).__class__((at(0, 0), at(2, 0), at(2, 2), at(0, 2)), ((0, 1, 2), (0, 2, 3)))
FIELD = ((3, 1), (0, 1), (0, 1), (0, 1))
TIMES = ((1, 1), (2, 3), (1, 50), (99, 1))


def cases(seed):
    """Meshes with told worths, also none at all, a field and a time."""
    random = Random(seed)
    for mesh in ALL:
        for worths in ((), random_worths(random, mesh, 1), random_worths(random, mesh)):
            yield mesh, worths, random_field(random, mesh), random.choice(TIMES)


def network_by_words(mesh, worths, field, time):
    many = len(mesh.points)
    free = [k for k in range(many) if k not in dict(worths)]
    table = {(a, b): much for a, b, much in network_of(mesh)[1]}
    table.update({(k, many + k): frac(lumps_by_words(mesh)[k] / worth_of(time)) for k in free})
    network = (tuple(range(many)) + tuple(many + k for k in free), tuple(pair + (table[pair],) for pair in sorted(table)))
    return network, worths + tuple((many + k, field[k]) for k in free)


def is_step_by_words(mesh, worths, field, time, value):
    told = dict(worths)
    out = flows(mesh, value)
    row = lumps_by_words(mesh)
    return all(value[k] == told[k] if k in told else
               row[k] / worth_of(time) * (worth_of(value[k]) - worth_of(field[k])) + worth_of(out[k]) == 0 for k in range(len(value)))


class Times(Checks):
    def test_any_value(self):
        for value in ANY + tuple(spoiled((2, 3))) + ((0, 1), (-1, 1), (2, 4), (1, 0), 1):
            if is_right_fraction(value) and value[0] > 0:
                self.assertIsNone(module.need_time(value))
                continue
            self.raises(InvalidSize, "time", module.need_time, value)
            self.raises(InvalidSize, "time", module.step, CELL, (), FIELD, value)
        for time in TIMES:
            self.assertIsNone(module.need_time(time))


class Networks(Checks):
    def test_with_told(self):
        for mesh, worths, field, _ in cases(1):
            told = dict(worths)
            self.same(module.with_told(field, worths), tuple(told.get(k, one) for k, one in enumerate(field)))
        self.same(module.with_told(FIELD, ()), FIELD)
        self.same(module.with_told(FIELD, ((0, (1, 2)), (2, (5, 1)))), ((1, 2), (0, 1), (5, 1), (0, 1)))

    def test_memory_network(self):
        for mesh, worths, field, time in cases(2):
            found = module.memory_network(mesh, worths, field, time)
            self.same(found, network_by_words(mesh, worths, field, time))
            self.assertTrue(is_network(found[0]))
        network, told = module.memory_network(KITE, ((1, (7, 1)),), FIELD, (2, 1))
        self.same(network, ((0, 1, 2, 3, 4, 6, 7), ((0, 1, (1, 4)), (0, 2, (3, 4)), (0, 3, (1, 4)), (0, 4, (2, 3)), (1, 2, (1, 4)),
                                                    (2, 3, (1, 4)), (2, 6, (2, 3)), (3, 7, (1, 3)))))
        self.same(told, ((1, (7, 1)), (4, (3, 1)), (6, (0, 1)), (7, (0, 1))))


class Steps(Checks):
    def test_by_words(self):
        for mesh, worths, field, time in cases(3):
            network, told = network_by_words(mesh, worths, field, time)
            expected = solved(network, told)
            found = module.step(mesh, worths, field, time)
            self.same(found, tuple(frac(expected[k]) for k in range(len(mesh.points))))
            self.same(found, tuple(worth for k, worth in settled_worths(network, told) if k < len(mesh.points)))
            self.assertTrue(is_step_by_words(mesh, worths, field, time, found))
            self.assertIs(module.check_step(mesh, worths, field, time, found), True)
        self.same(module.step(CELL, (), FIELD, (2, 3)), ((11, 5), (3, 5), (1, 5), (3, 5)))

    def test_all_are_told(self):
        worths = tuple((k, (k, 3) if k % 3 else (k // 3, 1)) for k in range(5))
        self.same(module.step(FAN, worths, ((9, 1),) * 5, (1, 1)), tuple(worth for _, worth in worths))

    def test_told_places_of_the_field_count_for_nothing(self):
        random = Random(4)
        for mesh, worths, field, time in cases(5):
            other = tuple(random_frac(random) if k in dict(worths) else one for k, one in enumerate(field))
            self.same(module.step(mesh, worths, other, time), module.step(mesh, worths, field, time))

    def test_steps(self):
        random = Random(6)
        for mesh, worths, field, _ in cases(7):
            some = [random.choice(TIMES) for _ in range(random.randint(0, 3))]
            expected = [module.with_told(field, worths)]
            for time in some:
                expected.append(module.step(mesh, worths, expected[-1], time))
            self.same(module.steps(mesh, worths, field, some), tuple(expected))
            self.same(module.steps(mesh, worths, field, tuple(some)), tuple(expected))

    def test_energy_falls_by_just_so_much(self):
        still = 0
        for mesh, worths, field, time in cases(8):
            first, second = module.steps(mesh, worths, field, [time])
            gap = tuple(frac(worth_of(a) - worth_of(b)) for a, b in zip(first, second))
            lost = worth_of(gap_square(mesh, first, second)) / worth_of(time) + worth_of(energy(mesh, gap))
            self.assertEqual(worth_of(energy(mesh, first)), worth_of(energy(mesh, second)) + lost)
            self.assertEqual(lost == 0, first == second)
            still += lost == 0
            if worths:
                least = least_field(mesh, worths)
                self.same(module.step(mesh, worths, least, time), least)
        self.assertGreater(still, 0)

    def test_warmth(self):
        for mesh, worths, field, time in cases(9):
            first, second = module.steps(mesh, worths, field, [time])
            out = flows(mesh, second)
            gained = worth_of(time) * sum(worth_of(out[k]) for k, _ in worths)
            # What told points bear does not change: their worths stay.
            self.assertEqual(worth_of(warmth(mesh, second)) - worth_of(warmth(mesh, first)), gained)
            if not worths:
                self.same(warmth(mesh, second), warmth(mesh, field))


class Checking(Checks):
    def test_changed_fields(self):
        random = Random(10)
        for mesh, worths, field, time in cases(11):
            right = module.step(mesh, worths, field, time)
            for k in range(len(right)):
                other = right[:k] + (frac(worth_of(right[k]) + random.choice((1, Fraction(-1, 77)))),) + right[k + 1:]
                self.assertIs(module.check_step(mesh, worths, field, time, other), False)
            self.assertIs(module.check_step(mesh, worths, field, time, right[:-1]), False)
            self.assertIs(module.check_step(mesh, worths, field, time, right + right[:1]), False)
            self.assertIs(module.check_step(mesh, worths, field, frac(worth_of(time) + 1), right), right == module.with_told(field, worths)
                          or is_step_by_words(mesh, worths, field, frac(worth_of(time) + 1), right))

    def test_any_value(self):
        for worths in ((), ((0, (1, 1)),), ((1, (-2, 3)), (3, (1, 1)))):
            right = module.step(CELL, worths, FIELD, (2, 3))
            self.assertIs(module.check_step(CELL, worths, FIELD, (2, 3), right), True)
            for value in ANY + tuple(spoiled(right)):
                self.assertIs(module.check_step(CELL, worths, FIELD, (2, 3), value), False, value)


class Spreads(Checks):
    def test_by_words(self):
        random = Random(12)
        for mesh in ALL:
            many = len(mesh.points)
            for told in ((), tuple(sorted(random.sample(range(many), random.randint(1, many))))):
                time = random.choice(TIMES)
                nothing = tuple((k, (0, 1)) for k in told)
                units = [tuple((1, 1) if k == n else (0, 1) for k in range(many)) for n in range(many)]
                expected = tuple(module.step(mesh, nothing, unit, time) for unit in units)
                self.same(module.spread(mesh, told, time), expected)
                row = lumps(mesh)
                for one in range(many):
                    for other in range(many):
                        if one not in told and other not in told:
                            self.assertEqual(worth_of(expected[one][other]) * worth_of(row[other]),
                                             worth_of(expected[other][one]) * worth_of(row[one]))
                        elif one in told:
                            self.same(expected[one][other], (0, 1))

    def test_a_step_is_a_sum(self):
        for mesh, worths, field, time in cases(13):
            rows = module.spread(mesh, tuple(k for k, _ in worths), time)
            rest = module.step(mesh, worths, ((0, 1),) * len(field), time)
            total = [sum(worth_of(often) * worth_of(row[k]) for often, row in zip(field, rows)) + worth_of(rest[k]) for k in range(len(field))]
            self.same(module.step(mesh, worths, field, time), tuple(frac(one) for one in total))

    def test_calm_meshes(self):
        random = Random(14)
        calm = 0
        for mesh, worths, field, time in cases(15):
            if not is_calm(mesh, worths):
                continue
            calm += 1
            for row in module.spread(mesh, tuple(k for k, _ in worths), time):
                self.assertGreaterEqual(min(one[0] for one in row), 0)
            behind = [worth_of(one) for one in module.step(mesh, worths, field, time)]
            some = [worth_of(one) for one in field] + [worth_of(one) for _, one in worths]
            self.assertTrue(all(min(some) <= one <= max(some) for one in behind))
            more = tuple(frac(worth_of(one) + random.choice((0, 1, Fraction(1, 5)))) for one in field)
            warmer = [worth_of(one) for one in module.step(mesh, worths, more, time)]
            self.assertTrue(all(one <= other for one, other in zip(behind, warmer)))
        self.assertGreater(calm, 10)


class Limits(Checks):
    def test_long_numbers(self):
        random = Random(16)
        mesh = ALL[-1]
        field = tuple(frac(random.randint(10 ** 11, 10 ** 12 - 1), random.randint(10 ** 11, 10 ** 12 - 1)) for _ in mesh.points)
        time = frac(10 ** 12 - 1, 10 ** 11 + 3)
        row = module.steps(mesh, ((0, field[1]),), field, [time] * 4)
        self.assertEqual(len(row), 5)
        self.assertIs(module.check_step(mesh, ((0, field[1]),), row[3], time, row[4]), True)
