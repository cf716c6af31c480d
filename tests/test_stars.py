"""[20] Stars."""

from leastfield import stars
from leastfield.errors import InvalidSize
from leastfield.meshes import border_rings, edges_of, triangle_at
from tests.checks import Checks
from tests.grown import ALL_GROWN
from tests.samples import ANY, FAN, KITE, MANY_SMALL, MESHES, ONE, RING_MESH, cross, spoiled, xy
from tests.test_flips import SHAKEN

ALL = list(MESHES.values()) + MANY_SMALL + SHAKEN[4:16] + ALL_GROWN


def neighbours(mesh, number):
    return sorted(b if a == number else a for a, b in edges_of(mesh) if number in (a, b))


class Inner(Checks):
    def test_by_words(self):
        for mesh in ALL:
            border = [k for ring in border_rings(mesh) for k in ring]
            self.same(stars.inner_points(mesh), tuple(k for k in range(len(mesh.points)) if k not in border))
        self.same(stars.inner_points(FAN), (4,))
        self.same(stars.inner_points(KITE), ())


class Stars(Checks):
    def test_they_turn_left(self):
        for mesh in ALL:
            rings = border_rings(mesh)
            for k in range(len(mesh.points)):
                star = stars.star_of(mesh, k)
                self.assertEqual(sorted(star), neighbours(mesh, k))
                centre = xy(mesh.points[k])
                spots = [xy(mesh.points[n]) for n in star]
                ring = [ring for ring in rings if k in ring]
                pairs = list(zip(star, star[1:]))
                if ring:
                    at = ring[0].index(k)
                    self.assertEqual((star[0], star[-1]), (ring[0][(at + 1) % len(ring[0])], ring[0][at - 1]))
                    self.assertIsNone(triangle_at(mesh, k, star[-1]))
                else:
                    self.assertEqual(star[0], min(star))
                    pairs.append((star[-1], star[0]))
                    spots.append(spots[0])
                # Two next to each other make a triangle with the point.
                found = [tuple(sorted((k, one, other))) for one, other in pairs]
                self.assertTrue(all(cross(centre, one, other) > 0 for one, other in zip(spots, spots[1:])))
                numbers = stars.triangles_round(mesh, k)
                self.assertEqual([tuple(sorted(mesh.triangles[n])) for n in numbers], found)
                self.assertEqual(sorted(numbers), [n for n, triangle in enumerate(mesh.triangles) if k in triangle])
                self.assertEqual(len(star) - len(numbers), 1 if ring else 0)

    def test_by_hand(self):
        self.same(stars.star_of(FAN, 4), (0, 1, 2, 3))
        self.same(stars.star_of(FAN, 1), (2, 4, 0))
        self.same(stars.triangles_round(FAN, 4), (0, 2, 3, 1))
        self.same(stars.triangles_round(FAN, 1), (2, 0))
        self.same(stars.star_of(ONE, 2), (0, 1))
        # Round a hole the plate is on the left, too.
        self.same(stars.star_of(RING_MESH, 3), (4, 2, 0, 1, 5))
        self.same(stars.triangles_round(RING_MESH, 3), (4, 1, 0, 3))

    def test_any_number(self):
        for mesh in (FAN, ONE):
            many = len(mesh.points)
            for value in ANY + tuple(spoiled(1)) + (many, -1, -many, True, False, "1", (1,), [1]):
                if type(value) is int and 0 <= value < many:
                    continue
                for call in (stars.star_of, stars.triangles_round):
                    self.raises(InvalidSize, "number", call, mesh, value)
