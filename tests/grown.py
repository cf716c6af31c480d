"""Meshes grown from plates: points put in within and on the border, settled or shaken by flips."""

from fractions import Fraction
from random import Random

from leastfield.first import first_mesh
from leastfield.flips import settled
from leastfield.putting import put_in
from tests.samples import (COMB, DART, PLATES, RING, SLANTED, SPIRAL, SQUARE, STRAIGHT, THREE_HOLES, TRIANGLE, TWO_HOLES,
                           WINDOW, at, random_frac, xy)
from tests.test_flips import shaken


def place_in_triangle(random, mesh, triangle):
    """A point within a triangle, or within one of its edges."""
    a, b, c = [xy(mesh.points[k]) for k in triangle]
    first, second, third = random.choice(((1, 1, 1), (2, 1, 1), (1, 3, 2), (1, 1, 0), (0, 2, 1), (3, 0, 2)))
    total = Fraction(first + second + third)
    return at(*[(first * p + second * q + third * r) / total for p, q, r in zip(a, b, c)])


def grown(plate, seed, many):
    """A mesh of a plate with as many points more, put in one by one."""
    random = Random(seed)
    mesh = first_mesh(plate)
    while many:
        point = place_in_triangle(random, mesh, random.choice(mesh.triangles))
        if point not in mesh.points:
            mesh = put_in(mesh, point)
            many -= 1
        if random.random() < 0.3:
            mesh = settled(mesh)
    return mesh


def random_worths(random, mesh, many=None):
    """Told worths of some points of a mesh, one at least, all at most."""
    numbers = range(len(mesh.points))
    some = sorted(random.sample(numbers, min(many or random.randint(1, len(numbers)), len(numbers))))
    return tuple((number, random_frac(random)) for number in some)


SOME_PLATES = [SQUARE, DART, RING, WINDOW, STRAIGHT, TWO_HOLES, COMB, SPIRAL, SLANTED, THREE_HOLES, TRIANGLE]
GROWN = [grown(plate, seed, 1 + seed % 7) for seed, plate in enumerate(SOME_PLATES)]
TORN = [shaken(mesh, seed, 12) for seed, mesh in enumerate(GROWN)]
CLEAR = [settled(mesh) for mesh in GROWN]
ALL_GROWN = GROWN + TORN + CLEAR
assert len(PLATES) + 1 == len(SOME_PLATES)
