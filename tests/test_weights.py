"""[37] and [38] Weights."""

from fractions import Fraction

from leastfield import weights
from leastfield.errors import InvalidSize, Refused
from leastfield.flips import passes
from leastfield.meshes import borders_of, edges_of, inner_edges
from tests.checks import Checks
from tests.samples import (ANY, FAN, FLAT, KITE, MANY_SMALL, MESHES, ONE, STEEP, Mesh, at, circle_determinant, cross, frac, scalar,
                           sign, spoiled, worth_of, xy)
from tests.test_flips import SHAKEN, four

ALL = list(MESHES.values()) + MANY_SMALL + SHAKEN


def weight_by_words(mesh, edge):
    total = Fraction(0)
    for triangle in mesh.triangles:
        if edge[0] in triangle and edge[1] in triangle:
            (third,) = set(triangle) - set(edge)
            a, b, c = [xy(mesh.points[k]) for k in (third,) + edge]
            total += Fraction(scalar(a, b, c)) / abs(cross(a, b, c))
    return total / 2


class Weights(Checks):
    def test_cotangents(self):
        self.same(weights.cotangent(at(0, 0), at(1, 0), at(0, 1)), (0, 1))
        self.same(weights.cotangent(at(0, 0), at(1, 0), at(5, 5)), (1, 1))
        self.same(weights.cotangent(at(0, 0), at(3, 0), at(-2, 6)), (-1, 3))
        self.same(weights.cotangent(at(0, 0), at(3, 0), at(6, 2)), (3, 1))
        for mesh in ALL[:12]:
            for triangle in mesh.triangles:
                for k in range(3):
                    three = [mesh.points[number] for number in triangle[k:] + triangle[:k]]
                    a, b, c = [xy(point) for point in three]
                    self.same(weights.cotangent(*three), frac(Fraction(scalar(a, b, c)) / cross(a, b, c)))

    def test_weights(self):
        for mesh in ALL:
            expected = []
            for edge in edges_of(mesh):
                much = frac(weight_by_words(mesh, edge))
                self.same(weights.weight(mesh, edge), much)
                expected.append(edge + (much,))
            self.same(weights.weights_of(mesh), tuple(expected))

    def test_by_circle(self):
        for mesh in ALL:
            for edge in inner_edges(mesh):
                much = weights.weight_by_circle(mesh, edge)
                self.same(much, frac(weight_by_words(mesh, edge)))
                side = sign(circle_determinant(*[xy(mesh.points[k]) for k in four(mesh, edge)]))
                self.assertEqual(sign(much[0]), -side)
                self.assertEqual(much[0] < 0, not passes(mesh, edge))
        self.assertTrue(any(much[0] < 0 for _, _, much in weights.weights_of(STEEP)))
        self.same(weights.weight_by_circle(STEEP, (2, 3)), frac(weight_by_words(STEEP, (2, 3))))

    def test_wrong_edges(self):
        for mesh in (FAN, KITE, FLAT):
            for value in ANY + tuple(spoiled((0, 1))) + ((1, 0), (4, 0), (0, 99), (0, 0), (-1, 0), (True, 2), (False, 1)):
                if repr(value) in [repr(edge) for edge in edges_of(mesh)]:
                    continue
                self.raises(InvalidSize, "edge", weights.weight, mesh, value)
                self.raises(InvalidSize, "edge", weights.weight_by_circle, mesh, value)
            for edge in borders_of(mesh):
                self.raises(Refused, "border", weights.weight_by_circle, mesh, edge)

    def test_heavy_borders(self):
        for mesh in ALL:
            heavy = tuple(edge for edge in borders_of(mesh) if weight_by_words(mesh, edge) < 0)
            self.same(weights.heavy_borders(mesh), heavy)
        self.same(weights.heavy_borders(KITE), ())
        self.same(weights.heavy_borders(ONE), ((0, 1),))
        # Over a right angle the weight is 0, which is not below 0.
        self.same(weights.heavy_borders(Mesh((at(0, 0), at(4, 0), at(0, 3)), ((0, 1, 2),))), ())
        # An inner edge below 0 does not count.
        self.assertTrue(worth_of(weights.weight(STEEP, (2, 3))) < 0)
        self.assertNotIn((2, 3), weights.heavy_borders(STEEP))
