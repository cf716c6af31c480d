"""Plates, meshes and other things that several tests look at, made without the package's own functions."""

from fractions import Fraction
from random import Random

from leastfield.desk import Desk
from leastfield.errors import FieldError, InvalidCommand, InvalidPoint, NoName, Refused
from leastfield.meshes import Mesh
from leastfield.plates import Plate
from leastfield.studio import Studio


def frac(top, bottom=1):
    """A fraction of the package that is equal to a quotient."""
    worth = Fraction(top, bottom)
    return (worth.numerator, worth.denominator)


def worth_of(one):
    """Python's own fraction for one of the package."""
    return Fraction(one[0], one[1])


def at(x, y):
    """The point of two integers or fractions of Python's own."""
    return (frac(x), frac(y))


def xy(point):
    return (worth_of(point[0]), worth_of(point[1]))


def cross(a, b, c):
    """Twice the area of three pairs, by Python's numbers."""
    return (b[0] - a[0]) * (c[1] - a[1]) - (b[1] - a[1]) * (c[0] - a[0])


def scalar(a, b, c):
    return (b[0] - a[0]) * (c[0] - a[0]) + (b[1] - a[1]) * (c[1] - a[1])


def determinant(rows):
    """The determinant of three rows, by its definition."""
    (a, b, c), (d, e, f), (g, h, i) = rows
    return a * e * i + b * f * g + c * d * h - c * e * g - b * d * i - a * f * h


def circle_determinant(a, b, c, d):
    rows = [(p[0] - d[0], p[1] - d[1], (p[0] - d[0]) ** 2 + (p[1] - d[1]) ** 2) for p in (a, b, c)]
    return determinant(rows)


def sign(number):
    return (number > 0) - (number < 0)


def random_frac(random, most=12):
    return frac(random.randint(-most, most), random.randint(1, 7))


def random_point(random, most=6):
    return (random_frac(random, most), random_frac(random, most))


def random_field(random, mesh):
    return tuple(random_frac(random) for _ in mesh.points)


SQUARE = Plate(((0, 0), (4, 0), (4, 4), (0, 4)), ())
DART = Plate(((0, 0), (6, 0), (2, 2), (0, 6)), ())
RING = Plate(((0, 0), (9, 0), (0, 9)), (((1, 1), (1, 3), (3, 1)),))
WINDOW = Plate(((0, 0), (6, 0), (6, 6), (0, 6)), (((2, 2), (2, 4), (4, 4), (4, 2)),))
STRAIGHT = Plate(((0, 0), (2, 0), (4, 0), (4, 4), (2, 4), (0, 4)), ())
TWO_HOLES = Plate(((0, 0), (10, 0), (10, 5), (0, 5)),
                  (((6, 1), (7, 3), (8, 1)), ((1, 1), (1, 2), (1, 3), (3, 3), (3, 1))))
COMB = Plate(((0, 0), (7, 0), (7, 5), (5, 5), (5, 2), (4, 2), (4, 5), (2, 5), (2, 2), (1, 2), (1, 5), (0, 5)), ())
SPIRAL = Plate(((0, 0), (8, 0), (8, 8), (2, 8), (2, 3), (5, 3), (5, 5), (4, 5), (4, 6), (6, 6), (6, 2), (0, 2)), ())
SLANTED = Plate(((0, -5), (7, -2), (3, 1), (6, 6), (-1, 4), (-6, 7), (-3, 0), (-8, -3)), (((0, 0), (-1, 2), (1, 2)),))
THREE_HOLES = Plate(((0, 0), (12, 0), (6, 12)), (((3, 1), (4, 3), (5, 1)), ((7, 1), (8, 3), (9, 1)), ((5, 5), (6, 8), (7, 5))))
TRIANGLE = Plate(((0, 0), (5, 1), (2, 6)), ())

PLATES = {
    "square": SQUARE, "dart": DART, "ring": RING, "window": WINDOW, "straight": STRAIGHT, "two holes": TWO_HOLES,
    "comb": COMB, "spiral": SPIRAL, "slanted": SLANTED, "triangle": TRIANGLE,
}


def _move_of(x, y, cells, random):
    """How far a lattice point may be moved: inner ones anywhere, straight ones along their side."""
    around = [(x - 1, y - 1) in cells, (x, y - 1) in cells, (x - 1, y) in cells, (x, y) in cells]
    right = Fraction(random.randint(-8, 8), 9)
    up = Fraction(random.randint(-8, 8), 9)
    if around == [True, True, True, True]:
        return right, up
    if around in ([True, True, False, False], [False, False, True, True]):
        return right, Fraction(0)
    if around in ([True, False, True, False], [False, True, False, True]):
        return Fraction(0), up
    return Fraction(0), Fraction(0)


def grid_mesh(cells, seed, bent=False, shuffled=False):
    """The mesh of some cells of a lattice, each parted by one of its diagonals."""
    random = Random(seed)
    spots = sorted({(x + i, y + j) for x, y in cells for i in (0, 1) for j in (0, 1)})
    if shuffled:
        random.shuffle(spots)
    numbers = {spot: number for number, spot in enumerate(spots)}
    points = []
    for x, y in spots:
        right, up = _move_of(x, y, cells, random) if bent else (0, 0)
        points.append(at(4 * x + right, 4 * y + up))
    triangles = []
    for x, y in sorted(cells):
        a, b, c, d = [numbers[spot] for spot in ((x, y), (x + 1, y), (x + 1, y + 1), (x, y + 1))]
        parts = random.choice([((a, b, c), (a, c, d)), ((a, b, d), (b, c, d))])
        triangles.extend(rotated(part) for part in parts)
    return Mesh(tuple(points), tuple(sorted(triangles)))


def rotated(triangle):
    """The triangle with its least number first."""
    at_least = triangle.index(min(triangle))
    return triangle[at_least:] + triangle[:at_least]


def block(wide, high, gone=()):
    return {(x, y) for x in range(wide) for y in range(high)} - set(gone)


KITE = Mesh((at(-1, 0), at(0, -2), at(1, 0), at(0, 2)), ((0, 1, 2), (0, 2, 3)))
FLAT = Mesh((at(-1, 0), at(1, 0), at(0, 3), at(0, -1)), ((0, 1, 2), (0, 3, 1)))
STEEP = Mesh(FLAT.points, ((0, 3, 2), (1, 2, 3)))
FAN = Mesh((at(0, 0), at(4, 0), at(4, 4), at(0, 4), at(1, 2)), ((0, 1, 4), (0, 4, 3), (1, 2, 4), (2, 3, 4)))
ONE = Mesh((at(0, 0), at(4, 0), at(1, 1)), ((0, 1, 2),))
DART_MESH = Mesh((at(0, 0), at(6, 0), at(2, 2), at(0, 6)), ((0, 1, 2), (0, 2, 3)))
RING_MESH = Mesh((at(0, 0), at(9, 0), at(0, 9), at(1, 1), at(1, 3), at(3, 1)),
                 ((0, 1, 3), (0, 3, 2), (1, 2, 5), (1, 5, 3), (2, 3, 4), (2, 4, 5)))

MESHES = {
    "kite": KITE, "flat": FLAT, "steep": STEEP, "fan": FAN, "one": ONE, "dart": DART_MESH, "ring": RING_MESH,
    "cell": grid_mesh(block(1, 1), 1),
    "strip": grid_mesh(block(3, 1), 2),
    "block": grid_mesh(block(3, 3), 3),
    "bent block": grid_mesh(block(3, 3), 4, bent=True, shuffled=True),
    "frame": grid_mesh(block(3, 3, [(1, 1)]), 5, shuffled=True),
    "angle": grid_mesh(block(3, 3, [(1, 1), (2, 1), (1, 2), (2, 2)]), 6, bent=True),
    "bent frame": grid_mesh(block(4, 4, [(1, 1)]), 7, bent=True, shuffled=True),
    "two holes": grid_mesh(block(5, 3, [(1, 1), (3, 1)]), 8, shuffled=True),
    "bent two holes": grid_mesh(block(6, 4, [(1, 1), (4, 2)]), 9, bent=True, shuffled=True),
    "comb": grid_mesh(block(5, 2, [(1, 1), (3, 1)]), 10, bent=True, shuffled=True),
}
MANY_SMALL = [grid_mesh(block(2, 2), seed, bent=True, shuffled=True) for seed in range(20, 28)]


def nested(depth):
    value = 1
    for k in range(depth):
        value = [value] if k % 2 else (value,)
    return value


ANY = (
    0, 1, -1, 2, 7, -5, 10 ** 3999, -10 ** 3999, True, False, None, "", "a", "abc", "1", "1/2", "(0, 1)", "edge",
    (), [], (0,), [0], (0, 0), (0, 1), [0, 1], (1, 0), (True, 1), (0, True), (False, True), (1, 2), (2, 4), (1, -2),
    (0, 1, 2), [0, 1, 2], (True, 1, 2), (0, 1, 1), ((0, 1), (0, 1)), [(0, 1), (0, 1)], ((0, 1), [0, 1]),
    ((0, 1), (0, 2)), ((0, 1), (True, 1)), ((0, 1), (0, 1), (0, 1)), ((0, 0), (1, 0), (0, 1)),
    [(0, 0), (1, 0), (0, 1)], (None, None), ("a", "b"), (None,), ((),), ([],), ((), ()), ([], []), ("0", "1"),
    ((0, 1, (1, 1)),), ((0, 1), ((0, 1, (1, 2)),)), (0, ((1, 3), (1, 3), (1, 3))),
    SQUARE, WINDOW, FAN, KITE, Mesh(None, None), Mesh([], []), Mesh((), ()), Mesh(3, "abc"), Mesh((True,), (None,)),
    FieldError(), InvalidPoint(3), InvalidCommand(), Refused("edge"), NoName(None),
    Studio(SQUARE), (Studio(WINDOW), (0, 1)), Desk(SQUARE), [Desk(TRIANGLE)], ("tell", 0, Studio(SQUARE)), "tell 0 1\n", "outer 0,0 4,0", ("undo", None),
    (SQUARE, FAN), [FAN], (FAN,), ((FAN, 1), (0, 1)), nested(30), (nested(29), nested(28)),
)


def spoiled(value):
    """Values that are wrong wherever a tuple of integers, or of tuples of them, is right."""
    for other in (None, "a", True, [value], (value,), FAN):
        yield other
    if isinstance(value, tuple):
        yield list(value)
        yield value + (None,)
        for k, thing in enumerate(value):
            yield value[:k] + value[k + 1:]
            for other in spoiled(thing):
                yield value[:k] + (other,) + value[k + 1:]
    elif isinstance(value, int):
        yield str(value)
        if value in (0, 1):
            yield bool(value)


def is_deep_tuple(value):
    """Whether no list and no set is within a value."""
    if isinstance(value, tuple):
        return all(is_deep_tuple(thing) for thing in value)
    if isinstance(value, Mesh):
        return is_deep_tuple(value.points) and is_deep_tuple(value.triangles)
    if isinstance(value, Plate):
        return is_deep_tuple(value.outer) and is_deep_tuple(value.holes)
    if isinstance(value, Desk):
        return is_deep_tuple(value.studio) and is_deep_tuple(value.said()) and is_deep_tuple(value.shown())
    if isinstance(value, Studio):
        return is_deep_tuple(value.telling()) and is_deep_tuple(value.mesh()) and is_deep_tuple(value.calls())
    return value is None or isinstance(value, (int, str))
