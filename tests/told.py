"""Plates, points and tellings at random, and where points lie, told without the package's own functions."""

from fractions import Fraction
from random import Random

from tests.samples import COMB, DART, RING, SLANTED, SQUARE, STRAIGHT, TRIANGLE, TWO_HOLES, WINDOW, at, cross, frac, scalar, xy

SOME = [SQUARE, DART, RING, WINDOW, STRAIGHT, TRIANGLE, SLANTED]
SOME_MORE = SOME + [TWO_HOLES, COMB]


def corners(plate):
    return [corner for ring in (plate.outer,) + plate.holes for corner in ring]


def sides(plate):
    """The pairs of corner numbers of the sides, that from each corner at its place."""
    found = []
    for ring in (plate.outer,) + plate.holes:
        first = len(found)
        found += [(first + k, first + (k + 1) % len(ring)) for k in range(len(ring))]
    return found


def inside_ring(ring, p):
    """Whether a pair that is on no side is inside a ring: by how many sides a ray to the right meets."""
    inside = False
    for a, b in zip(ring, ring[1:] + ring[:1]):
        if (a[1] > p[1]) != (b[1] > p[1]) and a[0] + Fraction(b[0] - a[0]) * (p[1] - a[1]) / (b[1] - a[1]) > p[0]:
            inside = not inside
    return inside


def where(plate, point):
    p = xy(point)
    for number, corner in enumerate(corners(plate)):
        if p == corner:
            return ("corner", number)
    for number, other in sides(plate):
        a, b = corners(plate)[number], corners(plate)[other]
        if cross(a, b, p) == 0 and scalar(p, a, b) < 0:
            return ("side", number)
    if inside_ring(plate.outer, p) and not any(inside_ring(hole, p) for hole in plate.holes):
        return ("inside",)
    return ("outside",)


def random_place(random, plate):
    """A point: at a corner, on a side, inside or outside."""
    some = corners(plate)
    kind = random.randint(0, 9)
    if kind == 0:
        return at(*random.choice(some))
    if kind < 5:
        one, other = random.choice(sides(plate))
        part = Fraction(random.randint(1, 4), 5)
        return at(*[a + part * (b - a) for a, b in zip(some[one], some[other])])
    xs, ys = [x for x, _ in some], [y for _, y in some]
    return at(Fraction(random.randint(2 * min(xs) - 1, 2 * max(xs) + 1), 2), Fraction(random.randint(2 * min(ys) - 1, 2 * max(ys) + 1), 2))


def random_telling(random, plate):
    """A right telling: some corners, some of the sides between them, some knots that may be told."""
    many = len(corners(plate))
    told = {k: frac(random.randint(-9, 9), random.randint(1, 5)) for k in range(many) if random.random() < 0.7}
    on = tuple(k for k, other in sides(plate) if k in told and other in told and random.random() < 0.5)
    knots = {}
    for _ in range(random.randint(0, 5)):
        point = random_place(random, plate)
        place = where(plate, point)
        if place[0] == "inside" or (place[0] == "side" and place[1] not in on):
            knots[point] = frac(random.randint(-9, 9), random.randint(1, 5))
    return (tuple(sorted(told.items())), on, tuple(sorted(knots.items())))


TELLINGS = [(plate, random_telling(Random(7 * k + seed), plate)) for k, plate in enumerate(SOME_MORE) for seed in range(6)]
