"""[44] and [45] Networks."""

from fractions import Fraction
from random import Random

from leastfield import networks
from leastfield.errors import Refused
from leastfield.meshes import edges_of
from tests.checks import Checks
from tests.nets import EXAMPLE, MIXED, OF_MESHES, POSITIVE, drop_by_words, energy_of, flow_out, table_of
from tests.samples import ANY, FAN, KITE, MESHES, frac, random_frac, spoiled, worth_of
from tests.test_weights import weight_by_words

ALL = POSITIVE + MIXED + OF_MESHES + [EXAMPLE]


def random_worths(random, network):
    return tuple((point, random_frac(random)) for point in network[0])


class WhatIsANetwork(Checks):
    def test_networks(self):
        for network in ALL + [((), ()), ((5,), ()), ((0, 7), ()), ((0, 7), ((0, 7, (-1, 3)),))]:
            self.assertIs(networks.is_network(network), True)

    def test_wrong_values(self):
        tie = (0, 2, (1, 1))
        for value in (None, (), [], ((), (), ()), [(0, 2), (tie,)], ([0, 2], (tie,)), ((0, 2), [tie]), ((0, 2), (list(tie),)),
                      ((2, 0), (tie,)), ((0, 0, 2), (tie,)), ((-1, 0, 2), (tie,)), ((False, 2), ()), ((0, True), ()),
                      ((0, "2"), ()), ((0, 2), ((2, 0, (1, 1)),)), ((0, 2), ((0, 0, (1, 1)),)), ((0, 2), ((0, 3, (1, 1)),)),
                      ((1, 2), ((0, 2, (1, 1)),)), ((0, 2), ((0, 2, (0, 1)),)), ((0, 2), ((0, 2, (2, 2)),)), ((0, 2), ((0, 2, 1),)),
                      ((0, 2), ((0, 2),)), ((0, 2), ((0, 2, (1, 1), 0),)), ((0, 2), (tie, tie)), ((0, 2), ((False, 2, (1, 1)),)),
                      ((0, 1), ((0, True, (1, 1)),)), ((0, 2), ((0, 2, (True, 1)),)), ((0, 2), (tie, None)),
                      ((0, 1, 2), ((0, 2, (1, 1)), (0, 1, (1, 1)))), ((0, 1, 2), ((1, 2, (1, 1)), (0, 2, (1, 1)))),
                      ((0, 1, 2), ((0, 2, (1, 1)), (0, 2, (1, 2)))), ((0, 2), tie), ((0, None), ()), FAN, "ab", 5, True,
                      ((0, 2), ((0, [2], (1, 1)),)), (((0,), (1,)), ()), ((10 ** 20, 3), ()), ((0, 2), ((0, 2, FAN),))):
            self.assertIs(networks.is_network(value), False, value)

    def test_any_value(self):
        right = [value for value in ANY if networks.is_network(value)]
        self.assertEqual(right, [((), ()), ((0, 1), ((0, 1, (1, 2)),))])
        for value in spoiled(((0, 1), ((0, 1, (1, 2)),))):
            if value not in (((0, 1), ()), ((), ())):
                self.assertIs(networks.is_network(value), False, value)

    def test_of_meshes(self):
        for mesh in list(MESHES.values()):
            ties = [edge + (frac(weight_by_words(mesh, edge)),) for edge in edges_of(mesh)]
            expected = (tuple(range(len(mesh.points))), tuple(tie for tie in ties if tie[2] != (0, 1)))
            self.same(networks.network_of(mesh), expected)
        self.same(len(networks.network_of(MESHES["cell"])[1]), 4)
        self.same(len(networks.network_of(KITE)[1]), 5)


class Telling(Checks):
    def test_pairs_and_pulls(self):
        for network in ALL:
            table = table_of(network)
            for point in network[0]:
                near = sorted((other, frac(much)) for (one, other), much in table.items() if one == point)
                self.same(networks.pairs_of(network, point), tuple(near))
                self.same(networks.pull_of(network, point), frac(sum((worth_of(much) for _, much in near), Fraction(0))))
        self.same(networks.pairs_of(EXAMPLE, 2), ((0, (1, 1)), (1, (2, 1)), (3, (1, 1))))
        self.same(networks.pull_of(EXAMPLE, 2), (4, 1))
        self.same(networks.pairs_of(((3,), ()), 3), ())
        self.same(networks.pull_of(((3,), ()), 3), (0, 1))

    def test_energies_and_flows(self):
        random = Random(5)
        for network in ALL:
            worths = random_worths(random, network)
            table = {point: worth_of(one) for point, one in worths}
            self.same(networks.network_energy(network, worths), frac(energy_of(network, table)))
            flows = [networks.outflow(network, worths, point) for point in network[0]]
            self.same(flows, [frac(flow_out(network, table, point)) for point in network[0]])
            self.assertEqual(sum(worth_of(flow) for flow in flows), 0)
        self.same(networks.network_energy(((3,), ()), ((3, (5, 1)),)), (0, 1))


class Changing(Checks):
    def test_tied_more(self):
        random = Random(6)
        for network in ALL:
            table = table_of(network)
            for _ in range(6):
                low, high = sorted(random.sample(network[0], 2))
                before = table.get((low, high), Fraction(0))
                for more in (random_frac(random), (0, 1), frac(-before), (1, 3)):
                    ties = {tie[:2]: tie[2] for tie in network[1]}
                    ties.pop((low, high), None)
                    if before + worth_of(more):
                        ties[(low, high)] = frac(before + worth_of(more))
                    expected = (network[0], tuple(pair + (ties[pair],) for pair in sorted(ties)))
                    found = networks.tied_more(network, low, high, more)
                    self.same(found, expected)
                    self.assertIs(networks.is_network(found), True)

    def test_dropped(self):
        refused = 0
        for network in ALL:
            for point in network[0]:
                expected = drop_by_words(network, point)
                if expected is None:
                    refused += 1
                    self.raises(Refused, "pull", networks.dropped, network, point)
                else:
                    found = networks.dropped(network, point)
                    self.same(found, expected)
                    self.assertIs(networks.is_network(found), True)
        self.assertGreater(refused, 5)

    def test_pulls_that_are_not_above_0(self):
        for ties in ((), ((0, 1, (1, 1)), (1, 2, (-1, 1))), ((0, 1, (-1, 1)),), ((0, 1, (1, 2)), (1, 2, (-1, 1)))):
            self.raises(Refused, "pull", networks.dropped, ((0, 1, 2), ties), 1)
        self.same(networks.dropped(((0, 1, 2), ((0, 1, (2, 1)), (1, 2, (-1, 1)))), 1), ((0, 2), ((0, 2, (-2, 1)),)))

    def test_what_becomes_0_is_no_tie(self):
        network = ((0, 1, 2), ((0, 1, (1, 1)), (0, 2, (-1, 2)), (1, 2, (1, 1))))
        self.same(networks.dropped(network, 1), ((0, 2), ()))

    def test_the_energy_that_goes(self):
        random = Random(7)
        for network in ALL:
            for point in network[0]:
                smaller = drop_by_words(network, point)
                if smaller is None:
                    continue
                worths = random_worths(random, network)
                kept = tuple(pair for pair in worths if pair[0] != point)
                pairs = networks.pairs_of(network, point)
                pull = worth_of(networks.pull_of(network, point))
                table = {one: worth_of(worth) for one, worth in worths}
                mean = sum(worth_of(much) * table[other] for other, much in pairs) / pull
                more = worth_of(networks.network_energy(network, worths)) - worth_of(networks.network_energy(smaller, kept))
                self.assertEqual(more, pull * (table[point] - mean) ** 2 / 2)
