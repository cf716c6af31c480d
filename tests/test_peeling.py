"""[23] Peeling."""

from random import Random

from leastfield import peeling
from leastfield.errors import InvalidSize, Refused
from leastfield.meshes import counts
from tests.checks import Checks
from tests.grown import ALL_GROWN
from tests.samples import ANY, FAN, KITE, MANY_SMALL, MESHES, ONE, RING_MESH, spoiled
from tests.test_flips import SHAKEN

EVERY = list(MESHES.values()) + MANY_SMALL + SHAKEN[:12] + ALL_GROWN
WHOLE = [mesh for mesh in EVERY if counts(mesh)[4] == 0]
PIERCED = [mesh for mesh in EVERY if counts(mesh)[4] > 0]


def edges(triangle):
    return [frozenset(pair) for pair in zip(triangle, triangle[1:] + triangle[:1])]


def is_loose(mesh, left, number):
    """The words of [23], for a triangle among those that are left."""
    if left == {number}:
        return False
    others = [edge for k in left if k != number for edge in edges(mesh.triangles[k])]
    own = [edge for edge in edges(mesh.triangles[number]) if edge not in others]
    if len(own) == 2:
        return True
    if len(own) != 1:
        return False
    (third,) = set(mesh.triangles[number]) - own[0]
    every = [edge for k in left for edge in edges(mesh.triangles[k])]
    return not any(third in edge for edge in every if every.count(edge) == 1)


def loose_by_words(mesh, left):
    return tuple(sorted(k for k in left if is_loose(mesh, left, k)))


def rings_left(mesh, left):
    """How often each point is met by the border of what is left."""
    every = [edge for k in left for edge in edges(mesh.triangles[k])]
    met = {}
    for edge in every:
        if every.count(edge) == 1:
            for k in edge:
                met[k] = met.get(k, 0) + 1
    return met


class Peeling(Checks):
    def test_loose(self):
        for seed, mesh in enumerate(WHOLE):
            random = Random(seed)
            left, gone = set(range(len(mesh.triangles))), ()
            while True:
                expected = loose_by_words(mesh, left)
                self.same(peeling.loose(mesh, gone), expected)
                self.assertTrue(len(expected) >= 2 or len(left) == 1)
                self.assertEqual(set(rings_left(mesh, left).values()), {2})
                stuck = [k for k in range(len(mesh.triangles)) if k not in expected]
                if stuck:
                    self.raises(InvalidSize, "gone", peeling.loose, mesh, gone + (random.choice(stuck),))
                if not expected:
                    break
                number = random.choice(expected)
                left.discard(number)
                gone += (number,)
            self.assertIs(peeling.check_peeled(mesh, gone), True)
            if gone:
                self.assertIs(peeling.check_peeled(mesh, gone[:-1]), False)
                self.assertIs(peeling.check_peeled(mesh, list(gone)), False)
            self.assertIs(peeling.check_peeled(mesh, gone + tuple(left)), False)
            self.raises(InvalidSize, "gone", peeling.loose, mesh, list(gone))

    def test_peeled(self):
        for mesh in WHOLE:
            gone = peeling.peeled(mesh)
            self.assertEqual(len(gone), len(mesh.triangles) - 1)
            left = set(range(len(mesh.triangles)))
            for number in gone:
                self.assertTrue(is_loose(mesh, left, number))
                left.discard(number)
            self.assertIs(peeling.check_peeled(mesh, gone), True)
        self.same(peeling.peeled(ONE), ())
        self.same(peeling.loose(ONE, ()), ())
        self.same(peeling.loose(KITE, ()), (0, 1))
        self.same(peeling.loose(FAN, ()), (0, 1, 2, 3))
        self.same(peeling.loose(FAN, (0,)), (1, 2))
        self.same(peeling.loose(FAN, (0, 1)), (2, 3))

    def test_orders_at_random(self):
        random = Random(1)
        seen = {True: 0, False: 0}
        for mesh in WHOLE:
            many = len(mesh.triangles)
            for _ in range(6):
                gone = tuple(random.sample(range(many), random.choice((many - 1, random.randint(0, many)))))
                left, right = set(range(many)), True
                for number in gone:
                    right = right and is_loose(mesh, left, number)
                    left.discard(number)
                seen[right] += 1
                self.assertIs(peeling.check_peeled(mesh, gone), right and len(left) == 1)
                if right:
                    self.same(peeling.loose(mesh, gone), loose_by_words(mesh, left))
                else:
                    self.raises(InvalidSize, "gone", peeling.loose, mesh, gone)
        self.assertGreater(min(seen.values()), 20)

    def test_holes_come_first(self):
        self.assertGreater(len(PIERCED), 10)
        for mesh in PIERCED:
            for value in ((), None, (0,), (0, 0), [0]):
                self.raises(Refused, "holes", peeling.loose, mesh, value)
                self.raises(Refused, "holes", peeling.check_peeled, mesh, value)
            self.raises(Refused, "holes", peeling.peeled, mesh)

    def test_any_value(self):
        right = peeling.peeled(FAN)
        for value in ANY + tuple(spoiled(right)) + ((4,), (-1,), (0, 0), (0, 0, 1), (True, 2, 3), (0.0, 1, 2)):
            numbers = isinstance(value, tuple) and all(type(k) is int for k in value)
            left, good = {0, 1, 2, 3}, numbers
            for number in value if numbers else ():
                good = good and number in left and is_loose(FAN, left, number)
                left.discard(number)
            if good:
                self.same(peeling.loose(FAN, value), loose_by_words(FAN, left))
            else:
                self.raises(InvalidSize, "gone", peeling.loose, FAN, value)
            self.assertIs(peeling.check_peeled(FAN, value), good and len(left) == 1, value)
        for value in ANY:
            self.assertIs(peeling.check_peeled(ONE, value), value == () and isinstance(value, tuple), value)
            self.raises(Refused, "holes", peeling.loose, RING_MESH, value)
