"""[46] and [47] Elimination."""

from random import Random

from leastfield import elimination
from leastfield.errors import FieldError, Refused
from leastfield.networks import network_energy, pairs_of, pull_of
from tests.checks import Checks
from tests.nets import EXAMPLE, MIXED, OF_MESHES, POSITIVE, drop_by_words, energy_of, flow_out, solved
from tests.samples import frac, random_frac, worth_of

ALL = POSITIVE + MIXED + OF_MESHES + [EXAMPLE]


def means_by_words(network, order):
    """The means of [46], None if one of the points is refused."""
    means = []
    for point in order:
        smaller = drop_by_words(network, point)
        if smaller is None:
            return None
        pull = worth_of(pull_of(network, point))
        means.append((point, tuple((other, frac(worth_of(much) / pull)) for other, much in pairs_of(network, point))))
        network = smaller
    return tuple(means)


def told_some(random, network):
    some = sorted(random.sample(network[0], random.randint(1, len(network[0]))))
    return tuple((point, random_frac(random)) for point in some)


class Elimination(Checks):
    def test_means(self):
        random = Random(1)
        for network in ALL:
            for many in (0, 1, 2, len(network[0]) - 1):
                order = random.sample(network[0], many)
                expected = means_by_words(network, order)
                for kind in (list, tuple):
                    if expected is None:
                        self.raises(Refused, "pull", elimination.means_of, network, kind(order))
                    else:
                        self.same(elimination.means_of(network, kind(order)), expected)
        self.same(elimination.means_of(EXAMPLE, (2,)), ((2, ((0, (1, 4)), (1, (1, 2)), (3, (1, 4)))),))
        self.same(elimination.means_of(EXAMPLE, (0, 2)), ((0, ((2, (1, 1)),)), (2, ((1, (2, 3)), (3, (1, 3))))))
        # The last point of all has no tie left.
        self.raises(Refused, "pull", elimination.means_of, EXAMPLE, (0, 1, 2, 3))

    def test_reduced(self):
        random = Random(2)
        for network in ALL:
            for many in range(1, len(network[0]) + 1):
                stay = random.sample(network[0], many)
                expected = network
                for point in network[0]:
                    if point not in stay:
                        expected = expected and drop_by_words(expected, point)
                for kind in (list, tuple):
                    if expected is None:
                        self.raises(Refused, "pull", elimination.reduced, network, kind(stay))
                    else:
                        self.same(elimination.reduced(network, kind(stay)), expected)
        self.same(elimination.reduced(EXAMPLE, [3, 0]), ((0, 3), ((0, 3, (1, 2)),)))
        self.raises(Refused, "pull", elimination.reduced, EXAMPLE, ())

    def test_settled(self):
        random = Random(3)
        for network in ALL:
            for _ in range(3):
                told = told_some(random, network)
                free = [point for point in network[0] if point not in dict(told)]
                order = random.sample(free, len(free))
                self.check(network, told, order, elimination.settled_by(network, told, order)
                           if means_by_words(network, order) is not None else None, order)
                self.check(network, told, free, elimination.settled_worths(network, told)
                           if means_by_words(network, free) is not None else None, None)

    def check(self, network, told, order, found, given):
        if found is None:
            if given is None:
                self.raises(Refused, "pull", elimination.settled_worths, network, told)
            else:
                self.raises(Refused, "pull", elimination.settled_by, network, told, order)
                self.raises(Refused, "pull", elimination.settled_by, network, told, tuple(order))
            return
        worths = solved(network, told)
        self.same(found, tuple((point, frac(worths[point])) for point in network[0]))
        for point in order:
            self.assertEqual(flow_out(network, worths, point), 0)

    def test_least_energy(self):
        random = Random(4)
        for network in POSITIVE + OF_MESHES:
            told = told_some(random, network)
            least = elimination.settled_worths(network, told)
            much = network_energy(network, least)
            small = elimination.reduced(network, [point for point, _ in told])
            self.same(network_energy(small, told), much)
            table = {point: worth_of(one) for point, one in least}
            free = [point for point in network[0] if point not in dict(told)]
            for _ in range(5):
                if free:
                    other = dict(table)
                    point = random.choice(free)
                    other[point] += worth_of(random.choice(((1, 100), (-1, 7), (3, 1))))
                    self.assertGreater(energy_of(network, other), worth_of(much))

    def test_all_orders_tell_the_same(self):
        random = Random(5)
        for network in ALL:
            told = told_some(random, network)
            free = [point for point in network[0] if point not in dict(told)]
            found = []
            for _ in range(6):
                try:
                    found.append(elimination.settled_by(network, told, random.sample(free, len(free))))
                except FieldError as error:
                    self.assertEqual((error.__class__, error.word), (Refused, "pull"))
            if network in POSITIVE or network in OF_MESHES:
                self.assertEqual(len(found), 6)
            self.assertTrue(all(one == found[0] for one in found))

    def reached(self, network, told):
        """The points from which ways of ties lead to a told one."""
        found = {point for point, _ in told}
        while True:
            more = {one for low, high, _ in network[1] for one, other in ((low, high), (high, low)) if other in found}
            if more <= found:
                return found
            found |= more

    def test_what_is_refused_where_all_weights_are_above_0(self):
        random = Random(6)
        seen = set()
        for network in POSITIVE:
            network = (network[0], tuple(tie for tie in network[1] if random.random() < 0.7))
            for told in (told_some(random, network), ()):
                free = [point for point in network[0] if point not in dict(told)]
                order = random.sample(free, len(free))
                right = self.reached(network, told) == set(network[0])
                seen.add(right)
                if right:
                    self.assertEqual(elimination.settled_by(network, told, order), elimination.settled_worths(network, told))
                else:
                    self.raises(Refused, "pull", elimination.settled_by, network, told, order)
                    self.raises(Refused, "pull", elimination.settled_worths, network, told)
        self.assertEqual(seen, {True, False})

    def test_points_without_a_way_to_a_told_one(self):
        network = ((0, 1, 2, 3), ((0, 1, (1, 1)), (2, 3, (1, 1))))
        self.raises(Refused, "pull", elimination.settled_worths, network, ((0, (1, 1)),))
        self.raises(Refused, "pull", elimination.settled_by, network, ((0, (1, 1)),), (1, 3, 2))
        self.same(elimination.settled_worths(network, ((0, (1, 1)), (3, (2, 1)))),
                  ((0, (1, 1)), (1, (1, 1)), (2, (2, 1)), (3, (2, 1))))
        self.same(elimination.settled_worths(network, tuple((k, (k, 1)) for k in range(4))), tuple((k, (k, 1)) for k in range(4)))
