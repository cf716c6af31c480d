"""[74] Summits and their papers."""

from fractions import Fraction
from random import Random

from leastfield import summits as module
from leastfield.bounds import is_calm
from leastfield.errors import InvalidSize, Refused
from leastfield.field import least_field
from leastfield.flips import settled
from leastfield.places import field_at, place_of
from leastfield.raster import spots
from tests.checks import Checks
from tests.grown import ALL_GROWN, CLEAR, random_worths
from tests.samples import (ANY, FAN, KITE, MANY_SMALL, MESHES, ONE, RING_MESH, at, cross, frac, random_field, random_frac, spoiled,
                           worth_of, xy)
from tests.test_field import is_right_fraction
from tests.test_studio import is_right_point

ALL = [mesh for mesh in list(MESHES.values()) + MANY_SMALL[:2] + ALL_GROWN if len(mesh.points) <= 20]
TENT_FIELD = ((0, 1), (0, 1), (0, 1), (0, 1), (4, 1))
TENT = FAN.__class__(FAN.points[:4] + (at(2, 2),), FAN.triangles)
CALLS = (module.summit, module.summit_paper)


def is_right_box(value):
    if not isinstance(value, tuple) or len(value) != 2 or not all(is_right_point(one) for one in value):
        return False
    (left, bottom), (right, top) = [xy(one) for one in value]
    return left <= right and bottom <= top


def cut(corners, h):
    """What of a polygon is where a linear function is not below 0."""
    left = []
    for a, b in zip(corners, corners[1:] + corners[:1]):
        if h(a) >= 0:
            left.append(a)
        if h(a) * h(b) < 0:
            t = h(a) / (h(a) - h(b))
            left.append((a[0] + t * (b[0] - a[0]), a[1] + t * (b[1] - a[1])))
    return left


def functions(mesh, number, box):
    """The seven heights, as functions of pairs of Python's fractions."""
    a, b, c = [xy(mesh.points[k]) for k in mesh.triangles[number]]
    (left, bottom), (right, top) = [xy(one) for one in box]
    return [lambda p: cross(a, b, p), lambda p: cross(b, c, p), lambda p: cross(c, a, p),
            lambda p: p[0] - left, lambda p: right - p[0], lambda p: p[1] - bottom, lambda p: top - p[1]]


def plane(mesh, number, field):
    """The linear function of a field on a triangle, everywhere."""
    a, b, c = [xy(mesh.points[k]) for k in mesh.triangles[number]]
    f, g, h = [worth_of(field[k]) for k in mesh.triangles[number]]
    area = Fraction(cross(a, b, c))
    return lambda p: (cross(b, c, p) * f + cross(c, a, p) * g + cross(a, b, p) * h) / area


def greatest(mesh, field, box):
    """The greatest worth in a box, None if no triangle comes to it."""
    found = []
    for number, triangle in enumerate(mesh.triangles):
        corners = [xy(mesh.points[k]) for k in triangle]
        for h in functions(mesh, number, box)[3:]:
            corners = cut(corners, h)
        found += [plane(mesh, number, field)(p) for p in corners]
    return max(found) if found else None


def shows(mesh, field, box, value):
    """Whether a value of the right kinds is right, by the words of [74]."""
    (point, worth), rows = value
    p = xy(point)
    (left, bottom), (right, top) = [xy(one) for one in box]
    if not (left <= p[0] <= right and bottom <= p[1] <= top) or place_of(mesh, point) == ("outside",):
        return False
    if field_at(mesh, field, point) != worth or len(rows) != len(mesh.triangles):
        return False
    for number, row in enumerate(rows):
        if len(row) != 7 or any(part[0] < 0 for part in row):
            return False
        heights, f = functions(mesh, number, box), plane(mesh, number, field)
        left_over = [worth_of(worth) - f(q) - sum(worth_of(part) * h(q) for part, h in zip(row, heights))
                     for q in ((Fraction(0), Fraction(0)), (Fraction(1), Fraction(0)), (Fraction(0), Fraction(1)))]
        if left_over[0] < 0 or len(set(left_over)) > 1:
            return False
    return True


def random_box(random, mesh):
    """A box: some large, some small, some on points, some without width or height, some beside."""
    spots_here = [xy(point) for point in mesh.points]
    kind = random.randint(0, 6)
    a, b = random.choice(spots_here), random.choice(spots_here)
    if kind == 0:
        b = a
    elif kind == 1:
        a, b = (a[0], a[1]), (a[0] + Fraction(random.randint(0, 9), 7), a[1])
    elif kind < 5:
        a, b = [tuple(one + Fraction(random.randint(-9, 9), 5) for one in p) for p in (a, b)]
    elif kind == 5:
        a = tuple((one + other) / 2 for one, other in zip(a, b))
        b = (a[0], a[1] + random.choice((0, 1)))
    return (at(min(a[0], b[0]), min(a[1], b[1])), at(max(a[0], b[0]), max(a[1], b[1])))


class Boxes(Checks):
    def test_any_value(self):
        right = (at(0, 0), at(1, 3))
        wrong = 0
        for value in ANY + tuple(spoiled(right)) + (right[::-1], (at(0, 4), at(1, 3)), (at(2, 0), at(1, 3)), right + right, list(right),
                                                    (at(0, 0), [(1, 1), (3, 1)]), (at(Fraction(1, 2), 0), at(Fraction(1, 3), 1))):
            if is_right_box(value):
                self.assertIsNone(module.need_box(value))
                continue
            wrong += 1
            self.raises(InvalidSize, "box", module.need_box, value)
            for call in CALLS:
                self.raises(InvalidSize, "box", call, TENT, TENT_FIELD, value)
            self.raises(InvalidSize, "box", module.check_summit, TENT, TENT_FIELD, value, None)
        self.assertGreater(wrong, 80)
        for value in (right, (at(1, 1), at(1, 1)), (at(-5, 3), at(-5, 4)), (at(0, 0), at(10 ** 11, Fraction(1, 10 ** 11)))):
            self.assertIsNone(module.need_box(value))


class Summits(Checks):
    def test_by_words(self):
        random = Random(1)
        seen = {}
        for mesh in ALL:
            fields = [random_field(random, mesh), least_field(mesh, random_worths(random, mesh)), ((2, 3),) * len(mesh.points)]
            for field in fields:
                for _ in range(5):
                    box = random_box(random, mesh)
                    expected = greatest(mesh, field, box)
                    seen[expected is None] = seen.get(expected is None, 0) + 1
                    if expected is None:
                        for call in CALLS:
                            self.raises(Refused, "outside", call, mesh, field, box)
                        continue
                    point, worth = module.summit(mesh, field, box)
                    self.same(worth, frac(expected))
                    self.same(field_at(mesh, field, point), worth)
                    self.assertTrue(all(low <= one <= high for low, one, high in zip(xy(box[0]), xy(point), xy(box[1]))))
                    paper = module.summit_paper(mesh, field, box)
                    self.same(paper[0][1], worth)
                    self.assertTrue(shows(mesh, field, box, paper))
                    self.assertTrue(all(is_right_fraction(part) for row in paper[1] for part in row))
                    self.assertIs(module.check_summit(mesh, field, box, paper), True)
        self.assertGreater(seen[False], 300)
        self.assertGreater(seen[True], 20)

    def test_no_spot_has_more(self):
        random = Random(2)
        for mesh in ALL[::3]:
            field = random_field(random, mesh)
            low = at(Fraction(random.randint(-4, 30), 4), Fraction(random.randint(-4, 30), 4))
            frame = (low, (1, 3), 7, 7)
            rows = [spot for row in spots(frame) for spot in row]
            box = (low, rows[6])
            worths = [worth_of(field_at(mesh, field, spot)) for spot in rows if place_of(mesh, spot) != ("outside",)]
            if worths:
                self.assertGreaterEqual(worth_of(module.summit(mesh, field, box)[1]), max(worths))

    def test_by_hand(self):
        box = (at(0, 0), at(1, 3))
        self.same(module.summit(TENT, TENT_FIELD, box)[1], (2, 1))
        self.same(module.summit(TENT, TENT_FIELD, (at(0, 0), at(9, 9))), (at(2, 2), (4, 1)))
        self.same(module.summit(TENT, TENT_FIELD, (at(4, 1), at(4, 1))), (at(4, 1), (0, 1)))
        self.same(module.summit(TENT, TENT_FIELD, (at(3, 1), at(9, 1)))[1], (2, 1))
        self.raises(Refused, "outside", module.summit, TENT, TENT_FIELD, (at(5, 0), at(9, 9)))
        # Within a hole.
        field = ((0, 1),) * 6
        inner = (at(Fraction(3, 2), Fraction(3, 2)), at(Fraction(8, 5), Fraction(8, 5)))
        for call in CALLS:
            self.raises(Refused, "outside", call, RING_MESH, field, inner)
        self.assertIs(module.check_summit(RING_MESH, field, inner, ((inner[0], (0, 1)), (((0, 1),) * 7,) * 6)), False)

    def test_summits_of_least_fields(self):
        random = Random(3)
        tried = 0
        for mesh in CLEAR + [settled(mesh) for mesh in MESHES.values() if len(mesh.points) <= 20]:
            worths = random_worths(random, mesh)
            if not is_calm(mesh, worths):
                continue
            field = least_field(mesh, worths)
            for _ in range(6):
                box = random_box(random, mesh)
                most = greatest(mesh, field, box)
                if most is None:
                    continue
                tried += 1
                (left, bottom), (right, top) = [xy(one) for one in box]
                found = [worth_of(field[k]) for k, _ in worths
                         if left <= xy(mesh.points[k])[0] <= right and bottom <= xy(mesh.points[k])[1] <= top]
                for side in (((left, bottom), (left, top)), ((right, bottom), (right, top)), ((left, bottom), (right, bottom)),
                             ((left, top), (right, top))):
                    part = greatest(mesh, field, tuple(at(*end) for end in side))
                    found += [] if part is None else [part]
                self.assertEqual(max(found), most)
        self.assertGreater(tried, 20)


class Checking(Checks):
    def changed(self, random, paper):
        """Papers with one thing changed each, of the right kinds."""
        (point, worth), rows = paper
        yield ((point, frac(worth_of(worth) + 1)), rows)
        yield ((point, frac(worth_of(worth) - Fraction(1, 9))), rows)
        yield ((at(*[one + Fraction(1, 3) for one in xy(point)]), worth), rows)
        yield ((point, worth), rows[:-1])
        yield ((point, worth), rows + rows[:1])
        yield ((point, worth), rows[::-1])
        for k, row in enumerate(rows):
            n = random.randrange(7)
            for more in (1, -1, Fraction(1, 50)):
                part = frac(worth_of(row[n]) + more)
                yield ((point, worth), rows[:k] + (row[:n] + (part,) + row[n + 1:],) + rows[k + 1:])
            yield ((point, worth), rows[:k] + (row[:-1],) + rows[k + 1:])

    def test_by_words(self):
        random = Random(4)
        seen = {True: 0, False: 0}
        for mesh in ALL[::2]:
            field = random_field(random, mesh)
            box = random_box(random, mesh)
            if greatest(mesh, field, box) is None:
                continue
            paper = module.summit_paper(mesh, field, box)
            for value in self.changed(random, paper):
                expected = shows(mesh, field, box, value)
                seen[expected] += 1
                self.assertIs(module.check_summit(mesh, field, box, value), expected)
        self.assertGreater(seen[False], 100)

    def test_other_papers(self):
        box = (at(0, 0), at(4, 4))
        field = ((1, 1), (1, 1), (1, 1), (1, 1), (1, 1))
        flat = ((0, 1),) * 7
        # Of a flat field any point is a summit; more of opposite heights may be taken as long as they sum to little.
        for point in (at(0, 0), at(3, 1), at(2, 2)):
            self.assertIs(module.check_summit(TENT, field, box, ((point, (1, 1)), (flat,) * 4)), True)
        more = ((0, 1),) * 3 + ((1, 100), (1, 100)) + ((0, 1),) * 2
        self.assertIs(module.check_summit(TENT, field, box, ((at(1, 1), (1, 1)), (more,) * 4)), False)
        self.assertIs(module.check_summit(TENT, field, box, ((at(1, 1), (2, 1)), (flat,) * 4)), False)
        # Parts below 0 could show anything.
        for part in ((-1, 100), (-1, 1), (-7, 2)):
            less = ((0, 1),) * 3 + (part, part) + ((0, 1),) * 2
            for rows in ((less,) * 4, (flat, flat, less, flat)):
                self.assertIs(module.check_summit(TENT, field, box, ((at(1, 1), (1, 1)), rows)), False)
        best, rows = module.summit_paper(TENT, TENT_FIELD, (at(0, 0), at(1, 3)))
        low = field_at(TENT, TENT_FIELD, at(0, 1))
        less = tuple(tuple(frac(worth_of(part) - 9 * (k in (3, 4))) for k, part in enumerate(row)) for row in rows)
        self.assertIs(module.check_summit(TENT, TENT_FIELD, (at(0, 0), at(1, 3)), ((at(0, 1), low), less)), False)
        self.assertIs(module.check_summit(TENT, field, box, ((at(5, 1), (1, 1)), (flat,) * 4)), False)
        # More than what is told somewhere can be shown by a point that has it, but not by another one.
        tent = module.summit_paper(TENT, TENT_FIELD, box)
        self.assertIs(module.check_summit(TENT, TENT_FIELD, box, (tent[0], tent[1])), True)
        self.assertIs(module.check_summit(TENT, TENT_FIELD, box, ((at(1, 1), (2, 1)), tent[1])), False)

    def test_points_beside_the_box(self):
        # The rows show more worth, too; but only a point of the box may have it.
        for right, up in ((1, 0), (-1, 0), (0, 1), (0, -1)):
            field = tuple(frac(right * x + up * y) for x, y in [xy(point) for point in TENT.points])
            box = (at(1, 1), at(3, 3))
            (point, worth), rows = module.summit_paper(TENT, field, box)
            self.assertIs(module.check_summit(TENT, field, box, ((point, worth), rows)), True)
            for far in (Fraction(3, 2), Fraction(1, 9), 0, -1):
                there = at(2 + (1 + far) * right, 2 + (1 + far) * up)
                value = ((there, field_at(TENT, field, there)), rows) if far <= 1 else None
                self.assertIs(module.check_summit(TENT, field, box, value), far == 0)
            # As much worth beside the box, at the same height.
            side = at(2 + right + 2 * up, 2 + up + 2 * right)
            self.same(field_at(TENT, field, side), worth)
            self.assertIs(module.check_summit(TENT, field, box, ((side, worth), rows)), False)
            other = at(2 + right - 2 * up, 2 + up - 2 * right)
            self.assertIs(module.check_summit(TENT, field, box, ((other, worth), rows)), False)

    def test_another_number_left_over(self):
        # A triangle beside the box: what is left over may be above 0.
        box = (at(0, 0), at(0, 0))
        paper = module.summit_paper(ONE, ((0, 1), (-1, 1), (-1, 1)), box)
        self.assertIs(module.check_summit(ONE, ((0, 1), (-1, 1), (-1, 1)), box, paper), True)
        # Two triangles are flat, far below the summit: so nothing need be told of them.
        box, field = (at(0, 0), at(4, 4)), ((0, 1), (0, 1), (0, 1), (4, 1), (0, 1))
        best, rows = module.summit_paper(TENT, field, box)
        self.same(best, (at(0, 4), (4, 1)))
        flat = ((0, 1),) * 7
        self.assertIs(module.check_summit(TENT, field, box, (best, (flat, rows[1], flat, rows[3]))), True)
        self.assertIs(module.check_summit(TENT, field, box, (best, (flat, flat, flat, rows[3]))), False)
        some = ((0, 1), (0, 1), (0, 1), (1, 4), (1, 4), (0, 1), (0, 1))
        # A quarter of both widths sums to 1; of the 4 left over 3 are left.
        self.assertIs(module.check_summit(TENT, field, box, (best, (some, rows[1], flat, rows[3]))), True)
        many = ((0, 1), (0, 1), (0, 1), (2, 1), (2, 1), (0, 1), (0, 1))
        self.assertIs(module.check_summit(TENT, field, box, (best, (many, rows[1], flat, rows[3]))), False)

    def test_any_value(self):
        box = (at(0, 0), at(1, 1))
        field = ((0, 1), (1, 2), (1, 1))
        right = module.summit_paper(ONE, field, box)
        self.assertIs(module.check_summit(ONE, field, box, right), True)
        for value in ANY + tuple(spoiled(right)):
            self.assertIs(module.check_summit(ONE, field, box, value), False, value)
        for value in ANY:
            self.assertIs(module.check_summit(KITE, ((0, 1),) * 4, (at(9, 9), at(9, 9)), value), False)


class Limits(Checks):
    def test_long_numbers(self):
        random = Random(5)
        mesh = MESHES["bent block"]
        far = 10 ** 29
        field = tuple(frac(random.randint(-far, far), random.randint(1, far)) for _ in mesh.points)
        box = (at(Fraction(far // 7, far), random_frac(random)[0]), at(Fraction(10 ** 11, 10 ** 10 + 1), 10 ** 11))
        paper = module.summit_paper(mesh, field, box)
        self.assertIs(module.check_summit(mesh, field, box, paper), True)
