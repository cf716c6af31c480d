"""Networks at random, and what Python's own fractions tell of them."""

from fractions import Fraction
from random import Random

from leastfield.networks import network_of
from tests.samples import MANY_SMALL, MESHES, frac, worth_of
from tests.test_flips import SHAKEN

EXAMPLE = ((0, 1, 2, 3), ((0, 2, (1, 1)), (1, 2, (2, 1)), (2, 3, (1, 1))))


def random_network(seed, below=False):
    """A network that hangs together, with some weights below 0 if so told."""
    random = Random(seed)
    points = sorted(random.sample(range(40), random.randint(2, 9)))
    ties = {}
    for k, high in enumerate(points[1:]):
        ties[(random.choice(points[:k + 1]), high)] = frac(random.randint(1, 9), random.randint(1, 5))
    for _ in range(random.randint(0, 10)):
        low, high = sorted(random.sample(points, 2))
        top = random.randint(1, 9)
        ties[(low, high)] = frac(-top if below and random.random() < 0.4 else top, random.randint(1, 5))
    return (tuple(points), tuple(pair + (ties[pair],) for pair in sorted(ties)))


POSITIVE = [random_network(seed) for seed in range(40)]
MIXED = [random_network(seed, below=True) for seed in range(40, 70)]
OF_MESHES = [network_of(mesh) for mesh in list(MESHES.values())[:12] + MANY_SMALL[:3] + SHAKEN[10:13]]


def table_of(network):
    """The weight for each ordered pair of neighbours."""
    table = {}
    for low, high, much in network[1]:
        table[(low, high)] = table[(high, low)] = worth_of(much)
    return table


def flow_out(network, worths, point):
    table = table_of(network)
    return sum((much * (worths[point] - worths[other]) for (one, other), much in table.items() if one == point), Fraction(0))


def energy_of(network, worths):
    return sum(worth_of(much) * (worths[low] - worths[high]) ** 2 for low, high, much in network[1]) / Fraction(2)


def solved(network, told):
    """The worths without flows at points that are not told, by elimination with rows; None if there is not just one."""
    told = dict(told)
    free = [point for point in network[0] if point not in told]
    table = table_of(network)
    rows = []
    for point in free:
        pull = sum((much for (one, _), much in table.items() if one == point), Fraction(0))
        row = [pull if other == point else -table.get((point, other), Fraction(0)) for other in free]
        row.append(sum((table.get((point, other), 0) * worth_of(told[other]) for other in told), Fraction(0)))
        rows.append(row)
    for k in range(len(rows)):
        pivot = next((n for n in range(k, len(rows)) if rows[n][k]), None)
        if pivot is None:
            return None
        rows[k], rows[pivot] = rows[pivot], rows[k]
        rows[k] = [one / rows[k][k] for one in rows[k]]
        for n in range(len(rows)):
            if n != k and rows[n][k]:
                rows[n] = [one - rows[n][k] * other for one, other in zip(rows[n], rows[k])]
    worths = {point: worth_of(one) for point, one in told.items()}
    worths.update({point: row[-1] for point, row in zip(free, rows)})
    return worths


def drop_by_words(network, point):
    """The network without a point by the words of [45], None if its pull is not above 0."""
    table = table_of(network)
    near = {other: much for (one, other), much in table.items() if one == point}
    pull = sum(near.values())
    if pull <= 0:
        return None
    points = tuple(other for other in network[0] if other != point)
    ties = []
    for k, low in enumerate(points):
        for high in points[k + 1:]:
            much = table.get((low, high), Fraction(0)) + near.get(low, 0) * near.get(high, 0) / pull
            if much:
                ties.append((low, high, frac(much)))
    return (points, tuple(ties))
