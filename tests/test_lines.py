"""[71] Lines."""

from random import Random

from leastfield import lines
from leastfield.bounds import is_calm
from leastfield.field import least_field
from leastfield.levels import gate_point, gates, high_points, regions
from leastfield.meshes import border_rings, borders_of, counts, edges_of, inner_edges
from tests.checks import Checks
from tests.grown import ALL_GROWN, CLEAR, random_worths
from tests.samples import FAN, MANY_SMALL, MESHES, RING_MESH, STEEP, frac, worth_of
from tests.test_levels import ALL, some_cases, some_levels


def next_gates(mesh, field, level):
    """To which gate each one leads, by the words of [71]."""
    table = {}
    some = gates(mesh, field, level)
    for high, low in some:
        for triangle in mesh.triangles:
            ways = list(zip(triangle, triangle[1:] + triangle[:1]))
            if (high, low) in ways:
                (other,) = [gate for gate in some if gate != (high, low) and set(gate) <= set(triangle)]
                table[(high, low)] = other
    return table


def lines_by_words(mesh, field, level):
    table = next_gates(mesh, field, level)
    some = gates(mesh, field, level)
    open_ones, closed_ones, met = [], [], set()
    for gate in [gate for gate in some if gate not in table.values()]:
        line = [gate]
        while line[-1] in table:
            line.append(table[line[-1]])
        open_ones.append(tuple(line))
        met |= set(line)
    for gate in some:
        if gate not in met:
            line = [gate]
            while table[line[-1]] != gate:
                line.append(table[line[-1]])
            closed_ones.append(tuple(line))
            met |= set(line)
    return tuple(sorted(open_ones)), tuple(sorted(closed_ones))


def surrounded_by_words(mesh, line):
    shut = {frozenset(gate) for gate in line}
    free = set(border_rings(mesh)[0])
    while True:
        more = {k for edge in edges_of(mesh) if frozenset(edge) not in shut and set(edge) & free for k in edge} - free
        if not more:
            return tuple(k for k in range(len(mesh.points)) if k not in free)
        free |= more


class Lines(Checks):
    def test_lines(self):
        many = {True: 0, False: 0}
        for mesh, field, level in some_cases(1):
            opened, closed = lines_by_words(mesh, field, level)
            self.same(lines.open_lines(mesh, field, level), opened)
            self.same(lines.closed_lines(mesh, field, level), closed)
            many[True] += len(closed)
            many[False] += len(opened)
            every = [gate for line in opened + closed for gate in line]
            self.assertEqual(sorted(every), list(gates(mesh, field, level)))
            border = [set(edge) for edge in borders_of(mesh)]
            inner = [set(edge) for edge in inner_edges(mesh)]
            for line in opened:
                self.assertTrue(set(line[0]) in border and set(line[-1]) in border)
                self.assertTrue(all(set(gate) in inner for gate in line[1:-1]))
                self.assertGreater(len(line), 1)
            for line in closed:
                self.assertEqual(min(line), line[0])
                self.assertTrue(all(set(gate) in inner for gate in line))
            table = list(next_gates(mesh, field, level).values())
            self.assertEqual(len(table), len(set(table)))
        self.assertGreater(min(many.values()), 50)

    def test_lines_and_regions(self):
        for mesh, field, level in some_cases(2):
            many = len(lines.open_lines(mesh, field, level)) + len(lines.closed_lines(mesh, field, level)) + 1
            lots = len(regions(mesh, field, level))
            self.assertTrue(lots <= many <= lots + counts(mesh)[4])

    def test_points_and_what_is_surrounded(self):
        some = 0
        for mesh, field, level in some_cases(3):
            for line in lines.open_lines(mesh, field, level) + lines.closed_lines(mesh, field, level):
                self.same(lines.line_points(mesh, field, level, line), tuple(gate_point(mesh, field, level, gate) for gate in line))
            for line in lines.closed_lines(mesh, field, level):
                found = lines.surrounded(mesh, line)
                self.same(found, surrounded_by_words(mesh, line))
                self.assertTrue(found)
                some += 1
                # One end of each gate is surrounded, always the same one.
                self.assertIn({(high in found, low in found) for high, low in line}, ({(True, False)}, {(False, True)}))
        self.assertGreater(some, 40)

    def test_least_fields_of_calm_meshes(self):
        random = Random(4)
        seen = 0
        for mesh in list(MESHES.values()) + MANY_SMALL + ALL_GROWN + CLEAR:
            for _ in range(3):
                worths = random_worths(random, mesh)
                if not is_calm(mesh, worths):
                    continue
                field = least_field(mesh, worths)
                told = [k for k, _ in worths]
                for level in some_levels(random, field):
                    opened, closed = lines.open_lines(mesh, field, level), lines.closed_lines(mesh, field, level)
                    seen += len(closed)
                    self.assertTrue(all(any(k in told for k in lot) for lot in regions(mesh, field, level)))
                    self.assertTrue(all(any(k in told for k in lines.surrounded(mesh, line)) for line in closed))
                    if counts(mesh)[4] == 0:
                        self.assertLess(len(opened) + len(closed), len(told))
        self.assertGreater(seen, 5)

    def test_by_hand(self):
        tent = ((0, 1),) * 4 + ((4, 1),)
        line = ((4, 0), (4, 1), (4, 2), (4, 3))
        self.same(lines.closed_lines(FAN, tent, (1, 1)), (line,))
        self.same(lines.open_lines(FAN, tent, (1, 1)), ())
        self.same(lines.surrounded(FAN, line), (4,))
        self.same(lines.closed_lines(FAN, tuple((-one[0], 1) for one in tent), (-1, 1)), (((0, 4), (3, 4), (2, 4), (1, 4)),))
        self.same(lines.open_lines(FAN, ((0, 1), (4, 1), (8, 1), (0, 1), (2, 1)), (2, 1)), (((2, 3), (4, 3), (4, 0), (1, 0)),))
        self.same(lines.open_lines(STEEP, ((0, 1), (1, 1), (0, 1), (0, 1)), (1, 1)), (((1, 2), (1, 3)),))
        self.same(lines.line_points(FAN, tent, (2, 1), line[:2]), ((frac(1, 2), frac(1)), (frac(5, 2), frac(1))))
        self.same((lines.open_lines(FAN, tent, (9, 1)), lines.closed_lines(FAN, tent, (0, 1))), ((), ()))

    def test_round_a_hole(self):
        field = ((0, 1),) * 3 + ((1, 1),) * 3
        (line,) = lines.closed_lines(RING_MESH, field, (1, 1))
        self.same(len(line), 6)
        self.same(lines.surrounded(RING_MESH, line), (3, 4, 5))
        self.same(high_points(RING_MESH, field, (1, 1)), (3, 4, 5))
        self.assertEqual(worth_of(field[3]), 1)

    def test_enough_cases(self):
        self.assertGreater(len(ALL), 50)
