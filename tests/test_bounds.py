"""[52] Calm meshes, spans, streams and floors."""

from fractions import Fraction
from random import Random

from leastfield import bounds
from leastfield.elimination import settled_worths
from leastfield.energy import energy
from leastfield.errors import Refused
from leastfield.field import least_field
from leastfield.networks import network_energy, network_of
from leastfield.weights import weights_of
from tests.checks import Checks
from tests.grown import ALL_GROWN, CLEAR, random_worths
from tests.nets import EXAMPLE, MIXED, POSITIVE, energy_of, flow_out
from tests.samples import ANY, FAN, KITE, MESHES, ONE, frac, random_frac, spoiled, worth_of
from tests.test_field import is_right_fraction

MESHES_HERE = list(MESHES.values()) + ALL_GROWN


def told_some(random, network):
    some = sorted(random.sample(network[0], random.randint(1, len(network[0]))))
    return tuple((point, random_frac(random)) for point in some)


class Calm(Checks):
    def test_by_words(self):
        random = Random(1)
        seen = set()
        for mesh in MESHES_HERE:
            for worths in [random_worths(random, mesh) for _ in range(4)] + [()]:
                told = dict(worths)
                wrong = [1 for a, b, much in weights_of(mesh) if much[0] < 0 and not (a in told and b in told)]
                self.assertIs(bounds.is_calm(mesh, worths), not wrong)
                seen.add((not wrong, worths == ()))
        self.assertEqual(len(seen), 4)

    def test_by_hand(self):
        # The angle at the third corner is obtuse.
        self.assertIs(bounds.is_calm(ONE, ((0, (0, 1)), (1, (1, 1)))), True)
        self.assertIs(bounds.is_calm(ONE, ((0, (0, 1)), (2, (1, 1)))), False)
        self.assertIs(bounds.is_calm(ONE, ((1, (0, 1)),)), False)
        self.assertIs(bounds.is_calm(ONE, ()), False)
        self.assertIs(bounds.is_calm(KITE, ((1, (0, 1)),)), True)

    def test_worths_lie_in_the_span(self):
        random = Random(2)
        calm = 0
        for mesh in MESHES_HERE:
            for _ in range(4):
                worths = random_worths(random, mesh)
                low, high = [worth_of(one) for one in bounds.span_of(worths)]
                if bounds.is_calm(mesh, worths):
                    calm += 1
                    least = [worth_of(one) for one in least_field(mesh, worths)]
                    self.assertTrue(all(low <= one <= high for one in least))
                    more = tuple((k, frac(worth_of(one) + random.choice((0, 1, Fraction(1, 3))))) for k, one in worths)
                    other = [worth_of(one) for one in least_field(mesh, more)]
                    self.assertTrue(all(one <= two for one, two in zip(least, other)))
        self.assertGreater(calm, 20)

    def test_span(self):
        self.same(bounds.span_of(((0, (1, 2)), (3, (-1, 3)), (4, (2, 5)))), ((-1, 3), (1, 2)))
        self.same(bounds.span_of(((2, (1, 2)),)), ((1, 2), (1, 2)))
        self.same(bounds.span_of(((2, (9, 10)), (3, (10, 9)), (5, (1, 100)))), ((1, 100), (10, 9)))
        random = Random(3)
        for mesh in MESHES_HERE[:10]:
            worths = random_worths(random, mesh)
            some = [worth_of(one) for _, one in worths]
            self.same(bounds.span_of(worths), (frac(min(some)), frac(max(some))))


class Streams(Checks):
    def test_strict(self):
        for network in POSITIVE + [EXAMPLE, ((0,), ()), ((), ())]:
            self.assertIs(bounds.is_strict(network), True)
        seen = set()
        for network in MIXED:
            right = all(much[0] > 0 for _, _, much in network[1])
            seen.add(right)
            self.assertIs(bounds.is_strict(network), right)
        self.assertIn(False, seen)
        self.assertIs(bounds.is_strict(((0, 1, 2), ((0, 1, (1, 1)), (1, 2, (-1, 9))))), False)

    def test_stream_and_sources(self):
        random = Random(4)
        for network in POSITIVE + MIXED + [EXAMPLE]:
            worths = tuple((point, random_frac(random)) for point in network[0])
            table = {point: worth_of(one) for point, one in worths}
            stream = bounds.stream_of(network, worths)
            self.same(stream, tuple(frac(worth_of(much) * (table[a] - table[b])) for a, b, much in network[1]))
            self.same(bounds.sources_of(network, stream), tuple((k, frac(flow_out(network, table, k))) for k in network[0]))
            wild = tuple(random_frac(random) for _ in network[1])
            expected = {k: Fraction(0) for k in network[0]}
            for (a, b, _), much in zip(network[1], wild):
                expected[a] += worth_of(much)
                expected[b] -= worth_of(much)
            self.same(bounds.sources_of(network, wild), tuple((k, frac(expected[k])) for k in network[0]))

    def test_is_stream(self):
        random = Random(5)
        seen = {True: 0, False: 0}
        for network in POSITIVE + MIXED:
            told = told_some(random, network)
            wild = tuple(random_frac(random) for _ in network[1])
            sources = dict(bounds.sources_of(network, wild))
            right = all(sources[k] == (0, 1) for k in network[0] if k not in dict(told))
            seen[right] += 1
            self.assertIs(bounds.is_stream(network, told, wild), right)
            all_told = tuple((k, (0, 1)) for k in network[0])
            self.assertIs(bounds.is_stream(network, all_told, wild), True)
            self.assertIs(bounds.is_stream(network, all_told, wild[:-1]), False)
            self.assertIs(bounds.is_stream(network, all_told, wild + wild[:1]), False)
            self.assertIs(bounds.is_stream(network, all_told, list(wild)), False)
            self.assertIs(bounds.is_stream(network, told, ((0, 1),) * len(network[1])), True)
        self.assertGreater(min(seen.values()), 5)

    def test_is_stream_of_any_value(self):
        told = ((0, (0, 1)), (1, (2, 1)), (3, (4, 1)))
        right = ((1, 1), (2, 1), (3, 1))
        self.assertIs(bounds.is_stream(EXAMPLE, told, right), True)
        for value in ANY + tuple(spoiled(right)):
            expected = isinstance(value, tuple) and len(value) == 3 and all(is_right_fraction(one) for one in value) \
                and worth_of(value[0]) + worth_of(value[1]) == worth_of(value[2])
            self.assertIs(bounds.is_stream(EXAMPLE, told, value), expected, value)


class Floors(Checks):
    def random_stream(self, random, network, told):
        """A stream for told points: that of the least worths, and some round about more."""
        least = settled_worths(network, told)
        stream = [worth_of(one) for one in bounds.stream_of(network, least)]
        other = tuple((k, random_frac(random)) for k, _ in told)
        more = bounds.stream_of(network, settled_worths(network, other))
        often = random.choice((0, 1, Fraction(1, 7)))
        return tuple(frac(one + often * worth_of(two)) for one, two in zip(stream, more))

    def test_no_energy_is_below_a_floor(self):
        random = Random(6)
        for network in POSITIVE:
            told = told_some(random, network)
            least = settled_worths(network, told)
            much = worth_of(network_energy(network, least))
            stream = self.random_stream(random, network, told)
            self.assertIs(bounds.is_stream(network, told, stream), True)
            floor = worth_of(bounds.stream_floor(network, told, stream))
            sources = dict(bounds.sources_of(network, stream))
            gained = sum(worth_of(one) * worth_of(sources[k]) for k, one in told)
            lost = sum(worth_of(one) ** 2 / worth_of(tie[2]) for one, tie in zip(stream, network[1])) / 2
            self.assertEqual(floor, gained - lost)
            self.assertLessEqual(floor, much)
            for _ in range(3):
                table = {k: worth_of(one) + random.randint(-2, 2) * (k not in dict(told)) for k, one in least}
                self.assertGreaterEqual(energy_of(network, table), floor)
            self.assertEqual(worth_of(bounds.stream_floor(network, told, bounds.stream_of(network, least))), much)

    def test_more_weight_never_lowers_the_energy(self):
        random = Random(7)
        for network in POSITIVE:
            told = told_some(random, network)
            more = (network[0], tuple((a, b, frac(worth_of(much) + random.choice((0, 1, Fraction(2, 5)))))
                                      for a, b, much in network[1]))
            one = network_energy(network, settled_worths(network, told))
            other = network_energy(more, settled_worths(more, told))
            self.assertLessEqual(worth_of(one), worth_of(other))

    def test_refused(self):
        network = ((0, 1, 2), ((0, 1, (1, 1)), (1, 2, (-1, 9))))
        self.raises(Refused, "weight", bounds.stream_floor, network, ((0, (0, 1)),), ((0, 1), (0, 1)))
        self.same(bounds.stream_floor(((0,), ()), ((0, (3, 1)),), ()), (0, 1))
        self.same(bounds.stream_floor(EXAMPLE, ((0, (0, 1)), (3, (4, 1))), ((-2, 1), (0, 1), (-2, 1))), (4, 1))


class Papers(Checks):
    def test_papers(self):
        random = Random(8)
        seen = {True: 0, False: 0}
        for mesh in MESHES_HERE + CLEAR:
            worths = random_worths(random, mesh)
            network = network_of(mesh)
            strict = all(much[0] > 0 for _, _, much in network[1])
            seen[strict] += 1
            least = least_field(mesh, worths)
            stream = bounds.stream_of(network, tuple(enumerate(least)))
            self.assertIs(bounds.check_least_paper(mesh, worths, (least, stream)), strict)
            if not strict:
                self.raises(Refused, "weight", bounds.least_paper, mesh, worths)
                continue
            self.same(bounds.least_paper(mesh, worths), (least, stream))
            self.assertEqual(bounds.stream_floor(network, worths, stream), energy(mesh, least))
            self.assertIs(bounds.check_least_paper(mesh, worths, (least, stream[:-1])), False)
            self.assertIs(bounds.check_least_paper(mesh, worths, (least[:-1], stream)), False)
            free = [k for k in range(len(mesh.points)) if k not in dict(worths)]
            if free:
                other = list(least)
                other[free[0]] = frac(worth_of(other[free[0]]) + 1)
                self.assertIs(bounds.check_least_paper(mesh, worths, (tuple(other), stream)), False)
            other = list(least)
            other[worths[0][0]] = frac(worth_of(worths[0][1]) + 1)
            self.assertIs(bounds.check_least_paper(mesh, worths, (tuple(other), stream)), False)
        self.assertGreater(min(seen.values()), 8)

    def test_another_stream_with_the_least_field(self):
        worths = ((1, (0, 1)), (3, (1, 1)))
        least, stream = bounds.least_paper(KITE, worths)
        none = ((0, 1),) * len(stream)
        self.assertIs(bounds.is_stream(network_of(KITE), worths, none), True)
        self.assertIs(bounds.check_least_paper(KITE, worths, (least, none)), False)
        # One worth all over and no stream: both have the energy 0.
        self.assertIs(bounds.check_least_paper(KITE, ((1, (5, 2)),), (((5, 2),) * 4, none)), True)
        self.assertIs(bounds.check_least_paper(KITE, ((1, (5, 2)),), (((1, 2),) * 4, none)), False)

    def test_any_value(self):
        worths = ((1, (0, 1)), (3, (1, 1)))
        right = bounds.least_paper(KITE, worths)
        self.assertIs(bounds.check_least_paper(KITE, worths, right), True)
        for value in ANY + tuple(spoiled(right)) + (right[::-1], right + right, right[:1]):
            self.assertIs(bounds.check_least_paper(KITE, worths, value), False, value)
            self.assertIs(bounds.check_least_paper(FAN, ((0, (0, 1)),), value), False, value)
