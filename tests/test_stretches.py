"""[15] Where straight ways meet the sides of plates."""

from fractions import Fraction
from random import Random

from leastfield import stretches as module
from leastfield.inside import side_of
from leastfield.plates import Plate
from leastfield.points import moved
from tests.checks import Checks
from tests.samples import COMB, PLATES, RING, SPIRAL, SQUARE, STRAIGHT, THREE_HOLES, WINDOW, at, cross, frac, worth_of, xy
from tests.told import SOME_MORE, corners, random_place, sides, where

ALL = list(PLATES.values()) + [THREE_HOLES]


def meetings_by_words(plate, a, b):
    """All parts at which the way is on a side, of common stretches the ends, by Python's fractions."""
    p, q = xy(a), xy(b)
    spots = corners(plate)
    found = set()
    for one, other in sides(plate):
        c, d = spots[one], spots[other]
        way, side = (q[0] - p[0], q[1] - p[1]), (d[0] - c[0], d[1] - c[1])
        area = way[0] * side[1] - way[1] * side[0]
        if area:
            t = Fraction((c[0] - p[0]) * side[1] - (c[1] - p[1]) * side[0]) / area
            u = Fraction((c[0] - p[0]) * way[1] - (c[1] - p[1]) * way[0]) / area
            if 0 <= t <= 1 and 0 <= u <= 1:
                found.add(t)
        elif cross(p, q, c) == 0:
            k = 0 if way[0] else 1
            low, high = sorted((Fraction(c[k] - p[k]) / way[k], Fraction(d[k] - p[k]) / way[k]))
            if low <= 1 and high >= 0:
                found |= {max(low, Fraction(0)), min(high, Fraction(1))}
    return sorted(found)


def some_ways(seed):
    """Ways of all kinds: between corners, along sides and beyond them, to points on sides, within and outside."""
    random = Random(seed)
    for plate in ALL + SOME_MORE:
        spots = [at(*corner) for corner in corners(plate)]
        for _ in range(12):
            a, b = [random.choice((random_place(random, plate), random.choice(spots))) for _ in range(2)]
            if a != b:
                yield plate, a, b
                yield plate, moved(a, b, (-1, 3)), moved(a, b, (5, 2))
        one, other = random.choice(sides(plate))
        for low, high in ((0, 1), (-1, 2), (Fraction(1, 3), Fraction(2, 3)), (Fraction(1, 2), 3), (1, 0), (1, 2)):
            yield plate, moved(spots[one], spots[other], frac(low)), moved(spots[one], spots[other], frac(high))


class Meetings(Checks):
    def test_by_words(self):
        many = set()
        for plate, a, b in some_ways(1):
            expected = meetings_by_words(plate, a, b)
            self.same(module.meetings(plate, a, b), tuple(frac(one) for one in expected))
            self.same(module.meetings(plate, b, a), tuple(frac(1 - one) for one in expected[::-1]))
            for part in expected:
                self.assertEqual(side_of(plate, moved(a, b, frac(part))), 0)
            many.add(len(expected))
        self.assertTrue({0, 1, 2, 3, 4, 6} <= many)

    def test_by_hand(self):
        self.same(module.meetings(SQUARE, at(-4, 2), at(4, 2)), ((1, 2), (1, 1)))
        self.same(module.meetings(SQUARE, at(1, 1), at(2, 3)), ())
        self.same(module.meetings(SQUARE, at(-1, 0), at(7, 0)), ((1, 8), (5, 8)))
        self.same(module.meetings(SQUARE, at(1, 0), at(3, 0)), ((0, 1), (1, 1)))
        # Two sides of a straight corner: the ends of both.
        self.same(module.meetings(STRAIGHT, at(-1, 0), at(7, 0)), ((1, 8), (3, 8), (5, 8)))
        self.same(module.meetings(SQUARE, at(4, 0), at(8, 0)), ((0, 1),))
        self.same(module.meetings(SQUARE, at(-2, 2), at(2, -2)), ((1, 2),))
        self.same(module.meetings(SQUARE, at(5, 0), at(8, 0)), ())


class Stretches(Checks):
    def test_by_words(self):
        random = Random(2)
        seen = {}
        for plate, a, b in some_ways(3):
            parts = sorted({Fraction(0), Fraction(1)} | set(meetings_by_words(plate, a, b)))
            found = module.stretches(plate, a, b)
            self.same([one[:2] for one in found], [(frac(low), frac(high)) for low, high in zip(parts, parts[1:])])
            for low, high, side in found:
                seen[side] = seen.get(side, 0) + 1
                # All points strictly within one part are on the same side.
                for _ in range(3):
                    part = worth_of(low) + (worth_of(high) - worth_of(low)) * Fraction(random.randint(1, 99), 100)
                    point = moved(a, b, frac(part))
                    self.assertEqual(side_of(plate, point), side)
                    kind = {"inside": 1, "outside": -1}.get(where(plate, point)[0], 0)
                    self.assertEqual(kind, side)
            self.assertIs(module.lies_in(plate, a, b), all(side != -1 for _, _, side in found))
        self.assertEqual(set(seen), {-1, 0, 1})
        self.assertGreater(min(seen.values()), 50)

    def test_by_hand(self):
        self.same(module.stretches(WINDOW, at(0, 3), at(6, 3)), (((0, 1), (1, 3), 1), ((1, 3), (2, 3), -1), ((2, 3), (1, 1), 1)))
        self.same(module.stretches(SQUARE, at(-1, 0), at(7, 0)), (((0, 1), (1, 8), -1), ((1, 8), (5, 8), 0), ((5, 8), (1, 1), -1)))
        self.same(module.stretches(SQUARE, at(1, 1), at(2, 2)), (((0, 1), (1, 1), 1),))
        self.same(module.stretches(SQUARE, at(9, 9), at(8, 8)), (((0, 1), (1, 1), -1),))

    def test_lies_in(self):
        for plate, a, b, expected in (
                (SQUARE, at(0, 0), at(4, 0), True), (SQUARE, at(0, 0), at(4, 4), True), (SQUARE, at(1, 1), at(5, 1), False),
                (WINDOW, at(0, 3), at(6, 3), False), (WINDOW, at(0, 2), at(6, 2), True), (WINDOW, at(0, 1), at(6, 1), True),
                (COMB, at(0, 5), at(7, 5), False), (COMB, at(1, 2), at(6, 2), True), (SPIRAL, at(3, 1), at(3, 7), False),
                (RING, at(1, 1), at(3, 1), True), (RING, at(1, 2), at(3, 1), False), (SQUARE, at(4, 4), at(5, 5), False)):
            self.assertIs(module.lies_in(plate, a, b), expected, (a, b))
            self.assertIs(module.lies_in(plate, b, a), expected, (a, b))


class Limits(Checks):
    def test_long_fractions_and_many_corners(self):
        random = Random(4)
        outer = [(0, -50), (900, -50)] + [(900 - 6 * k, k * k * 3 % 97 if k % 2 else 500 + 7 * k % 89) for k in range(148)]
        plate = Plate(tuple(outer), ())
        far = 10 ** 499
        a, b = [(frac(x * far + random.randint(1, far), far + 2 * random.randint(1, far // 3) + 1),
                 frac(300 * far + random.randint(1, far), far + 2 * random.randint(1, far // 3))) for x in (-60, 1500)]
        found = module.stretches(plate, a, b)
        self.assertGreater(len(found), 100)
        self.assertEqual([side for _, _, side in found], [-1 if k % 2 == 0 else 1 for k in range(len(found))])
        self.assertEqual(module.meetings(plate, a, b), tuple(one[0] for one in found[1:]))
