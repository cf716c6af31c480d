"""[73] Frames and pictures."""

from fractions import Fraction
from random import Random

from leastfield import raster
from leastfield.errors import InvalidPoint, InvalidSize
from leastfield.meshes import renumbered
from leastfield.putting import field_put, put_in
from tests.checks import Checks
from tests.grown import ALL_GROWN, place_in_triangle
from tests.samples import ANY, FAN, MANY_SMALL, MESHES, RING_MESH, at, cross, frac, random_field, spoiled, worth_of, xy
from tests.test_field import is_right_fraction

ALL = list(MESHES.values()) + MANY_SMALL[:3] + ALL_GROWN[::2]
TENT = ((0, 1),) * 4 + ((4, 1),)
FRAME = (at(0, 0), (1, 1), 6, 3)
LEVELS = ((1, 1), (2, 1), (3, 1))


def wrong_frame(value):
    """The error, and what it tells, by the words of [73]; None for a frame."""
    if not isinstance(value, tuple) or len(value) != 4:
        return InvalidSize, "frame"
    point, step, wide, high = value
    if not isinstance(point, tuple) or len(point) != 2:
        return InvalidPoint, -1
    for k in (0, 1):
        if not is_right_fraction(point[k]):
            return InvalidPoint, k
    if not is_right_fraction(step) or step[0] <= 0:
        return InvalidSize, "step"
    for word, number in (("wide", wide), ("high", high)):
        if type(number) is not int or not 1 <= number <= 40:
            return InvalidSize, word
    return None


def worth_at(mesh, field, x, y):
    for triangle in mesh.triangles:
        a, b, c = [xy(mesh.points[k]) for k in triangle]
        parts = [cross(b, c, (x, y)), cross(c, a, (x, y)), cross(a, b, (x, y))]
        if min(parts) >= 0:
            return sum(part * worth_of(field[k]) for part, k in zip(parts, triangle)) / Fraction(cross(a, b, c))
    return None


def frame_over(mesh, random):
    xs, ys = [[xy(point)[k] for point in mesh.points] for k in (0, 1)]
    step = Fraction(max(max(xs) - min(xs), max(ys) - min(ys))) / random.randint(4, 9)
    return (at(min(xs) - step * random.randint(0, 2) / 2, min(ys)), frac(step), random.randint(1, 12), random.randint(1, 9))


class Frames(Checks):
    def need(self, value):
        wrong = wrong_frame(value)
        calls = [(raster.need_frame, value), (raster.spots, value), (raster.sampled, FAN, TENT, value),
                 (raster.picture, FAN, TENT, value, LEVELS)]
        for call in calls:
            if wrong is not None:
                self.raises(wrong[0], wrong[1], *call)
        if wrong is None:
            self.assertIsNone(raster.need_frame(value))
        return wrong

    def test_any_value(self):
        for value in ANY:
            self.need(value)
            for k in range(4):
                self.need(FRAME[:k] + (value,) + FRAME[k + 1:])
            self.need((value,) * 4)

    def test_spoiled_ones(self):
        seen = set()
        for value in spoiled(FRAME):
            seen.add(self.need(value))
        self.assertTrue({(InvalidSize, "frame"), (InvalidPoint, -1), (InvalidPoint, 0), (InvalidPoint, 1), (InvalidSize, "step"),
                         (InvalidSize, "wide"), (InvalidSize, "high")} <= seen)

    def test_the_first_wrong_thing(self):
        point = at(1, 2)
        for error, told, value in ((InvalidSize, "frame", None), (InvalidSize, "frame", [point, (1, 1), 1, 1]), (InvalidPoint, -1, (1, 0, 0, 0)),
                                   (InvalidPoint, 0, ((None, None), 0, 0, 0)), (InvalidPoint, 1, (((0, 1), (2, 2)), 0, 0, 0)),
                                   (InvalidSize, "step", (point, (0, 1), 0, 0)), (InvalidSize, "step", (point, (-1, 2), 3, 3)),
                                   (InvalidSize, "step", (point, 1, 1, 1)), (InvalidSize, "wide", (point, (1, 2), 0, 0)),
                                   (InvalidSize, "wide", (point, (1, 2), 41, 1)), (InvalidSize, "wide", (point, (1, 2), True, 1)),
                                   (InvalidSize, "high", (point, (1, 2), 40, 0)), (InvalidSize, "high", (point, (1, 2), 1, 41)),
                                   (InvalidSize, "high", (point, (1, 2), 1, True)), (InvalidSize, "high", (point, (1, 2), 1, (1, 1)))):
            self.assertEqual(self.need(value), (error, told))
        for value in ((point, (1, 2), 1, 1), (point, (1, 2), 40, 40)):
            self.assertIsNone(self.need(value))
            self.assertEqual((len(raster.spots(value)), len(raster.spots(value)[0])), (value[3], value[2]))

    def test_spots(self):
        self.same(raster.spots((((1, 2), (-1, 3)), (1, 2), 3, 2)),
                  ((((1, 2), (1, 6)), ((1, 1), (1, 6)), ((3, 2), (1, 6))), (((1, 2), (-1, 3)), ((1, 1), (-1, 3)), ((3, 2), (-1, 3)))))
        random = Random(1)
        for mesh in ALL:
            frame = frame_over(mesh, random)
            (x, y), step = xy(frame[0]), worth_of(frame[1])
            self.same(raster.spots(frame), tuple(tuple(at(x + k * step, y + n * step) for k in range(frame[2]))
                                                 for n in reversed(range(frame[3]))))


class Pictures(Checks):
    def test_samples(self):
        random = Random(2)
        outside = 0
        for mesh in ALL:
            field, frame = random_field(random, mesh), frame_over(mesh, random)
            (x, y), step = xy(frame[0]), worth_of(frame[1])
            rows = [[worth_at(mesh, field, x + k * step, y + n * step) for k in range(frame[2])] for n in reversed(range(frame[3]))]
            expected = tuple(tuple(None if one is None else frac(one) for one in row) for row in rows)
            self.same(raster.sampled(mesh, field, frame), expected)
            outside += sum(row.count(None) for row in expected)
            levels = [frac(random.randint(-9, 9), random.randint(1, 3)) for _ in range(random.randint(0, 9))]
            lines = ["".join(" " if one is None else str(sum(worth_of(level) <= one for level in levels)) for one in row) for row in rows]
            self.same(raster.picture(mesh, field, frame, levels), "\n".join(lines))
            self.same(raster.picture(mesh, field, frame, tuple(levels)), "\n".join(lines))
        self.assertGreater(outside, 100)

    def test_by_hand(self):
        self.same(raster.picture(FAN, TENT, FRAME, ()), "00000 \n00000 \n00000 ")
        self.same(raster.picture(FAN, TENT, FRAME, ((0, 1),) * 9), "99999 \n99999 \n99999 ")
        self.same(raster.picture(RING_MESH, ((0, 1),) * 6, (at(1, 1), (1, 2), 3, 3), ((1, 1),)), "0 0\n0  \n000")
        self.same(raster.sampled(FAN, TENT, (at(4, 4), (1, 2), 2, 2)), ((None, None), ((0, 1), None)))

    def test_other_numbers_and_one_more_point(self):
        random = Random(3)
        for mesh in ALL:
            field, frame = random_field(random, mesh), frame_over(mesh, random)
            levels = [random_field(random, FAN)[k] for k in range(4)]
            drawn = raster.picture(mesh, field, frame, levels)
            order = tuple(random.sample(range(len(mesh.points)), len(mesh.points)))
            self.same(raster.picture(renumbered(mesh, order), tuple(field[k] for k in order), frame, levels), drawn)
            point = place_in_triangle(random, mesh, random.choice(mesh.triangles))
            if point not in mesh.points:
                self.same(raster.picture(put_in(mesh, point), field_put(mesh, field, point), frame, levels), drawn)
            often, more = Fraction(random.randint(1, 9), 7), Fraction(random.randint(-9, 9), 2)
            grown = [tuple(frac(worth_of(one) * often + more) for one in row) for row in (field, levels)]
            self.same(raster.picture(mesh, grown[0], frame, grown[1]), drawn)
