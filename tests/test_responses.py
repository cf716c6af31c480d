"""[51] Shares and responses; [52] once more, with shares."""

from random import Random

from leastfield import responses as module
from leastfield.bounds import is_calm
from leastfield.elimination import reduced
from leastfield.energy import energy
from leastfield.field import flows, least_field
from leastfield.networks import network_of, outflow
from tests.checks import Checks
from tests.grown import ALL_GROWN, CLEAR, random_worths
from tests.nets import EXAMPLE, MIXED, OF_MESHES, POSITIVE, table_of
from tests.samples import FAN, KITE, MANY_SMALL, MESHES, frac, random_field, random_frac, worth_of

ALL = list(MESHES.values()) + MANY_SMALL[:3] + ALL_GROWN


def told_lots(random, mesh):
    """Ascending tuples of points: one, some, all."""
    numbers = range(len(mesh.points))
    for many in (1, random.randint(1, len(numbers)), random.randint(2, 3), len(numbers)):
        yield tuple(sorted(random.sample(numbers, many)))


class Sums(Checks):
    def test_by_words(self):
        random = Random(1)
        for mesh in ALL:
            parts = [(random_frac(random), random_field(random, mesh)) for _ in range(random.randint(1, 5))]
            expected = tuple(frac(sum(worth_of(often) * worth_of(field[k]) for often, field in parts)) for k in range(len(mesh.points)))
            self.same(module.sum_of_fields(parts), expected)
            self.same(module.sum_of_fields(tuple(parts)), expected)
        self.same(module.sum_of_fields([((1, 2), ((2, 1), (1, 3)))]), ((1, 1), (1, 6)))
        self.same(module.sum_of_fields([((1, 2), ((2, 1),)), ((-1, 1), ((1, 1),))]), ((0, 1),))
        self.same(module.sum_of_fields([((1, 2), ((2, 1),))] * 20), ((20, 1),))

    def test_sums_of_least_fields(self):
        random = Random(2)
        for mesh in ALL:
            one = random_worths(random, mesh)
            other = tuple((k, random_frac(random)) for k, _ in one)
            both = tuple((a[0], frac(3 * worth_of(a[1]) + worth_of(b[1]) / 2)) for a, b in zip(one, other))
            parts = [((3, 1), least_field(mesh, one)), ((1, 2), least_field(mesh, other))]
            self.same(module.sum_of_fields(parts), least_field(mesh, both))


class Shares(Checks):
    def test_by_words(self):
        random = Random(3)
        for mesh in ALL:
            for told in told_lots(random, mesh):
                expected = tuple(least_field(mesh, tuple((k, (1, 1) if k == one else (0, 1)) for k in told)) for one in told)
                found = module.share_fields(mesh, told)
                self.same(found, expected)
                self.same(tuple(frac(sum(worth_of(one) for one in column)) for column in zip(*found)), ((1, 1),) * len(mesh.points))

    def test_every_least_field_is_a_sum_of_shares(self):
        random = Random(4)
        for mesh in ALL:
            worths = random_worths(random, mesh)
            shares = module.share_fields(mesh, tuple(k for k, _ in worths))
            self.same(module.sum_of_fields([(worth, share) for (_, worth), share in zip(worths, shares)]), least_field(mesh, worths))

    def test_shares_on_calm_meshes(self):
        random = Random(5)
        calm = 0
        for mesh in ALL + CLEAR:
            for told in told_lots(random, mesh):
                if is_calm(mesh, tuple((k, (0, 1)) for k in told)):
                    calm += 1
                    for share in module.share_fields(mesh, told):
                        # Each worth is a mean: none is below 0 or above 1.
                        self.assertTrue(all(0 <= worth_of(one) <= 1 for one in share))
        self.assertGreater(calm, 30)


class Responses(Checks):
    def test_by_words(self):
        random = Random(6)
        for mesh in ALL:
            for told in told_lots(random, mesh):
                found = module.response(mesh, told)
                expected = tuple(tuple(flows(mesh, share)[k] for k in told) for share in module.share_fields(mesh, told))
                self.same(found, expected)
                self.same(module.reduced_response(mesh, told), found)
                self.same(tuple(zip(*found)), found)
                for row in found:
                    self.assertEqual(sum(worth_of(one) for one in row), 0)

    def test_energy(self):
        random = Random(7)
        for mesh in ALL:
            worths = random_worths(random, mesh)
            rows = module.response(mesh, tuple(k for k, _ in worths))
            total = sum(worth_of(a) * worth_of(one) * worth_of(b) for (_, a), row in zip(worths, rows) for (_, b), one in zip(worths, row))
            self.same(frac(total / 2), energy(mesh, least_field(mesh, worths)))

    def test_networks(self):
        for network in POSITIVE + MIXED + OF_MESHES + [EXAMPLE, ((3,), ()), ((), ())]:
            table = table_of(network)
            expected = []
            for one in network[0]:
                units = tuple((k, (1, 1) if k == one else (0, 1)) for k in network[0])
                expected.append(tuple(outflow(network, units, k) for k in network[0]))
                self.assertTrue(all(worth_of(much) == -table.get((one, k), 0) for k, much in zip(network[0], expected[-1]) if k != one))
            self.same(module.response_of_network(network), tuple(expected))
        self.same(module.response_of_network(((2, 5, 9), ((2, 9, (1, 3)),))),
                  (((1, 3), (0, 1), (-1, 3)), ((0, 1), (0, 1), (0, 1)), ((-1, 3), (0, 1), (1, 3))))

    def test_of_the_reduced_network(self):
        random = Random(8)
        for mesh in ALL[:12]:
            for told in told_lots(random, mesh):
                self.same(module.reduced_response(mesh, told), module.response_of_network(reduced(network_of(mesh), told)))

    def test_by_hand(self):
        self.same(module.response(KITE, (1, 3)), (((1, 4), (-1, 4)), ((-1, 4), (1, 4))))
        self.same(module.response(FAN, (2,)), (((0, 1),),))
        self.same(module.share_fields(KITE, (1, 3)), (((1, 2), (1, 1), (1, 2), (0, 1)), ((1, 2), (0, 1), (1, 2), (1, 1))))
