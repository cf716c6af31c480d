"""The examples of DOC.md."""

import doctest
import os
import unittest

README = os.path.join(os.path.dirname(os.path.dirname(os.path.abspath(__file__))), "README.md")

EXAMPLES = {
    3: """
    >>> from leastfield.fractions import mean_of, plus, read_fraction, simplest
    >>> plus((1, 6), (1, 3)), mean_of(((1, 1), (2, 1)), ((0, 1), (3, 1))), read_fraction("-7/2")
    ((1, 2), (2, 1), (-7, 2))
    >>> simplest((3, 10), (2, 5)), simplest((-1, 3), (1, 4)), simplest((5, 7), (5, 7))
    ((1, 3), (0, 1), (5, 7))
    >>> from leastfield.points import circle_centre, circle_number, crossing_point, parts_of, point_at, whole_turn
    >>> a, b, c = point_at(0, 0), point_at(2, 0), point_at(0, 2)
    >>> circle_number(a, b, c, point_at(1, 1)), circle_number(a, b, c, point_at(2, 2)), circle_centre(a, b, c)
    ((8, 1), (0, 1), ((1, 1), (1, 1)))
    >>> parts_of(a, b, c, ((1, 2), (1, 2))), crossing_point(a, point_at(1, 1), b, c), whole_turn((0, 0), (1, 0), (1, -3))
    (((1, 2), (1, 4), (1, 4)), None, -1)
    """,
    4: """
    >>> from leastfield.inside import ring_turns, side_of, strips_area, where_in
    >>> from leastfield.plates import Plate, plate_area, sides_of, straightened
    >>> from leastfield.platetext import plate_text, read_plate
    >>> from leastfield.stretches import stretches
    >>> plate = Plate(((0, 0), (6, 0), (6, 6), (0, 6)), (((2, 2), (2, 4), (4, 4), (4, 2)),))
    >>> plate_area(plate), strips_area(plate), sides_of(plate)[3:5], straightened(((2, 0), (2, 2), (0, 0), (1, 0)))
    (64, (64, 1), ((3, 0), (4, 5)), ((0, 0), (2, 0), (2, 2)))
    >>> side_of(plate, ((3, 1), (3, 1))), where_in(plate, ((5, 2), (4, 1))), ring_turns(plate.holes[0], ((3, 1), (3, 1)))
    (-1, ('side', 5), -1)
    >>> stretches(plate, ((0, 1), (3, 1)), ((6, 1), (3, 1)))
    (((0, 1), (1, 3), 1), ((1, 3), (2, 3), -1), ((2, 3), (1, 1), 1))
    >>> plate_text(plate), read_plate("outer 0,0 1,0 0,1") == Plate(((0, 0), (1, 0), (0, 1)), ())
    ('outer 0,0 6,0 6,6 0,6\\nhole 2,2 2,4 4,4 4,2', True)
    """,
    5: """
    >>> from leastfield.meshes import Mesh, border_rings, counts, fills, opposites, plate_of
    >>> from leastfield.peeling import loose, peeled
    >>> from leastfield.places import field_at, outside_paper, place_of, place_paper
    >>> from leastfield.plates import Plate
    >>> from leastfield.stars import inner_points, star_of
    >>> points = (((0, 1), (0, 1)), ((4, 1), (0, 1)), ((4, 1), (4, 1)), ((0, 1), (4, 1)), ((1, 1), (2, 1)))
    >>> mesh = Mesh(points, ((0, 1, 4), (0, 4, 3), (1, 2, 4), (2, 3, 4)))
    >>> fills(Plate(((4, 0), (4, 4), (0, 4), (0, 0), (2, 0)), ()), mesh), plate_of(mesh).outer, counts(mesh)
    (False, ((0, 0), (4, 0), (4, 4), (0, 4)), (5, 8, 4, 4, 0))
    >>> border_rings(mesh), opposites(mesh, (1, 4)), opposites(mesh, (2, 3)), star_of(mesh, 4), star_of(mesh, 1), inner_points(mesh)
    (((0, 1, 2, 3),), (0, 2), (4, None), (0, 1, 2, 3), (2, 4, 0), (4,))
    >>> place_of(mesh, ((2, 1), (1, 1))), place_paper(mesh, ((2, 1), (1, 1))), place_of(mesh, ((1, 2), (1, 1)))
    (('triangle', 0), (0, ((1, 8), (3, 8), (1, 2))), ('edge', (0, 4)))
    >>> outside_paper(mesh, ((5, 1), (1, 1))), field_at(mesh, ((0, 1), (4, 1), (8, 1), (0, 1), (2, 1)), ((2, 1), (1, 1)))
    ((1, 0, 0, 2), (5, 2))
    >>> loose(mesh, ()), loose(mesh, (0,)), len(peeled(mesh))
    ((0, 1, 2, 3), (1, 2), 3)
    """,
    6: """
    >>> from leastfield.plates import Plate
    >>> from leastfield.diagonals import diagonals_of, sure_diagonal
    >>> dart = Plate(((0, 0), (6, 0), (2, 2), (0, 6)), ())
    >>> diagonals_of(dart), sure_diagonal(dart)
    (((0, 2),), (0, 2))
    >>> from leastfield.first import all_partings, first_mesh, many_triangles
    >>> from leastfield.bridges import bridges_of, walk_of
    >>> ring = Plate(((0, 0), (9, 0), (0, 9)), (((1, 1), (1, 3), (3, 1)),))
    >>> bridges_of(ring), walk_of(ring), many_triangles(ring)
    (((0, 3),), (0, 3, 4, 5, 3, 0, 1, 2), 6)
    >>> first_mesh(dart).triangles, all_partings(Plate(((0, 0), (4, 0), (4, 4), (0, 4)), ()))
    (((0, 1, 2), (0, 2, 3)), (((0, 2),), ((1, 3),)))
    >>> from leastfield.ears import ears_of, mesh_by_ears
    >>> ears_of(dart, (0, 1, 2, 3)), ears_of(ring, walk_of(ring)), mesh_by_ears(dart) == first_mesh(dart)
    ((1, 3), (0, 1, 4, 5), True)
    """,
    7: """
    >>> from leastfield.flips import bulge, failing, flipped, lift_sum, new_edge, settled
    >>> from leastfield.meshes import mesh_of
    >>> from leastfield.points import point_at
    >>> flat = mesh_of((point_at(-1, 0), point_at(1, 0), point_at(0, 3), point_at(0, -1)), ((0, 1, 2), (0, 1, 3)))
    >>> bulge(flat, (0, 1)), bulge(flipped(flat, (0, 1)), new_edge(flat, (0, 1)))
    ((-16, 1), (16, 1))
    >>> lift_sum(flat), lift_sum(flipped(flat, (0, 1))), settled(flipped(flat, (0, 1))) == flat
    ((72, 1), (88, 1), True)
    >>> from leastfield.circles import held, power, seen_from
    >>> from leastfield.ways import alike, sharpest
    >>> steep = flipped(flat, (0, 1))
    >>> held(steep), seen_from(steep, 0), power(steep, 1, point_at(-1, 0))
    (((0, 1), (1, 0)), (0, 1), (-4, 1))
    >>> alike(steep, flat), sharpest(steep), sharpest(flat)
    (True, (3, 1), (4, 3))
    """,
    8: """
    >>> from leastfield.meshes import Mesh
    >>> from leastfield.points import point_at
    >>> from leastfield.weights import heavy_borders, weight, weight_by_circle, weights_of
    >>> kite = Mesh((point_at(-1, 0), point_at(0, -2), point_at(1, 0), point_at(0, 2)), ((0, 1, 2), (0, 2, 3)))
    >>> weights_of(kite)
    ((0, 1, (1, 4)), (0, 2, (3, 4)), (0, 3, (1, 4)), (1, 2, (1, 4)), (2, 3, (1, 4)))
    >>> weight(kite, (0, 2)) == weight_by_circle(kite, (0, 2)), heavy_borders(kite)
    (True, ())
    >>> from leastfield.energy import energy, energy_by_triangles, mixed_energy, unit_field
    >>> from leastfield.slopes import linear_field, slope, triangle_energy
    >>> field = ((1, 1), (0, 1), (1, 1), (0, 1))
    >>> energy(kite, field), energy_by_triangles(kite, field), slope(kite, 1, field), triangle_energy(kite, 1, field)
    ((1, 2), (1, 2), ((0, 1), (-1, 2)), (1, 4))
    >>> mixed_energy(kite, field, unit_field(kite, 1)), energy(kite, linear_field(kite, (5, 1), (1, 1), (2, 1)))
    ((-1, 2), (10, 1))
    >>> from leastfield.lowering import energies_along, energy_change, jump
    >>> jump(kite, field, (0, 2)), energy_change(kite, field, (0, 2)), energies_along(kite, field, [(0, 2), (1, 3)])
    ((8, 1), (3, 2), ((1, 2), (2, 1), (1, 2)))
    """,
    9: """
    >>> from leastfield.elimination import settled_worths
    >>> from leastfield.networks import dropped, network_energy
    >>> network = ((0, 1, 2, 3), ((0, 2, (1, 1)), (1, 2, (2, 1)), (2, 3, (1, 1))))
    >>> dropped(network, 2)
    ((0, 1, 3), ((0, 1, (1, 2)), (0, 3, (1, 4)), (1, 3, (1, 2))))
    >>> settled_worths(network, ((0, (0, 1)), (1, (2, 1)), (3, (4, 1))))
    ((0, (0, 1)), (1, (2, 1)), (2, (2, 1)), (3, (4, 1)))
    """,
    10: """
    >>> from leastfield.feet import calmed, wild_edges
    >>> from leastfield.finer import fall, fall_parts, finer
    >>> from leastfield.halving import halvings, halvings_bound
    >>> from leastfield.meshes import Mesh
    >>> from leastfield.putting import foot_on, put_in, quartered
    >>> points = (((0, 1), (0, 1)), ((4, 1), (0, 1)), ((1, 1), (1, 1)))
    >>> mesh, worths = Mesh(points, ((0, 1, 2),)), ((0, (0, 1)), (2, (1, 1)))
    >>> put_in(mesh, ((2, 1), (0, 1))).triangles, quartered(mesh).triangles
    (((0, 3, 2), (1, 2, 3)), ((0, 3, 4), (1, 5, 3), (2, 4, 5), (3, 5, 4)))
    >>> wild_edges(mesh, worths), foot_on(mesh, (0, 1)), calmed(mesh, worths, 1)[0].triangles
    (((0, 1),), ((1, 1), (0, 1)), ((0, 3, 2), (1, 2, 3)))
    >>> halvings(mesh, (12, 1)), halvings_bound(mesh, (12, 1))
    ((((2, 1), (0, 1)),), 1)
    >>> knots = ((((1, 1), (0, 1)), False),)
    >>> fall(mesh, worths, knots), fall_parts(mesh, worths, ((1, 1), (0, 1))), finer(mesh, worths, ((((1, 2), (1, 2)), True),))[1]
    ((3, 10), ((0, 1), (3, 10)), ((0, (0, 1)), (2, (1, 1)), (3, (1, 2))))
    """,
    11: """
    >>> from leastfield.field import least_field
    >>> from leastfield.meshes import mesh_of
    >>> from leastfield.points import point_at
    >>> from leastfield.streams import cut_flow, edge_flows, stream_worths, swirl
    >>> tray = mesh_of((point_at(0, 0), point_at(2, 0), point_at(2, 1), point_at(0, 1)), ((0, 1, 2), (0, 2, 3)))
    >>> across = least_field(tray, ((0, (0, 1)), (1, (1, 1)), (2, (1, 1)), (3, (0, 1))))
    >>> edge_flows(tray, across)
    ((0, 1, (-1, 4)), (0, 2, (0, 1)), (0, 3, (0, 1)), (1, 2, (0, 1)), (2, 3, (1, 4)))
    >>> cut_flow(tray, across, (0, 3)), stream_worths(tray, across), swirl(tray, across, ((0, 1), (0, 1), (1, 1), (1, 1)))
    ((-1, 2), ((0, 1), (0, 1)), (1, 1))
    >>> from leastfield.marks import across_worths, arcs_of, bracket, bracket_paper
    >>> arcs_of(tray, (1, 2, 3, 0)), across_worths(tray, (1, 2, 3, 0))
    (((1, 2), (2, 3), (3, 0), (0, 1)), ((0, (1, 1)), (1, (0, 1)), (2, (0, 1)), (3, (1, 1))))
    >>> bracket(tray, (1, 2, 3, 0)), bracket_paper(tray, (0, 1, 2, 3))[0]
    (((1, 2), (1, 2)), ((0, 1), (0, 1), (1, 1), (1, 1)))
    >>> from leastfield.resistance import conductance, potential, resistance
    >>> resistance(tray, 0, 2), conductance(tray, (0, 3), (2, 1)), potential(tray, 1, 3)
    ((5, 2), (1, 2), ((1, 2), (5, 2), (2, 1), (0, 1)))
    """,
    12: """
    >>> from leastfield.lumps import lumps, warmth
    >>> from leastfield.meshes import mesh_of
    >>> from leastfield.points import point_at
    >>> from leastfield.warming import step
    >>> mesh = mesh_of((point_at(0, 0), point_at(2, 0), point_at(2, 2), point_at(0, 2)), ((0, 1, 2), (0, 2, 3)))
    >>> lumps(mesh), warmth(mesh, ((3, 1), (0, 1), (0, 1), (0, 1)))
    (((4, 3), (2, 3), (4, 3), (2, 3)), (4, 1))
    >>> field = step(mesh, (), ((3, 1), (0, 1), (0, 1), (0, 1)), (2, 3))
    >>> field, warmth(mesh, field)
    (((11, 5), (3, 5), (1, 5), (3, 5)), (4, 1))
    """,
    13: """
    >>> from leastfield.layers import area_above, flow_over, ladder, layers_sum
    >>> from leastfield.levels import gate_point, gates, regions
    >>> from leastfield.lines import closed_lines, surrounded
    >>> from leastfield.meshes import Mesh
    >>> from leastfield.points import point_at
    >>> from leastfield.raster import picture
    >>> from leastfield.summits import check_summit, summit, summit_paper
    >>> corners = (point_at(0, 0), point_at(4, 0), point_at(4, 4), point_at(0, 4), point_at(2, 2))
    >>> tent = Mesh(corners, ((0, 1, 4), (0, 4, 3), (1, 2, 4), (2, 3, 4)))
    >>> field = ((0, 1), (0, 1), (0, 1), (0, 1), (4, 1))
    >>> closed_lines(tent, field, (1, 1)), gate_point(tent, field, (1, 1), (4, 0)), regions(tent, field, (1, 1))
    ((((4, 0), (4, 1), (4, 2), (4, 3)),), ((1, 2), (1, 2)), ((0, 1, 2, 3), (4,)))
    >>> surrounded(tent, ((4, 0), (4, 1), (4, 2), (4, 3))), ladder(tent, field), area_above(tent, field, (1, 1))
    ((4,), (((0, 1), (4, 1), (16, 1)),), (9, 1))
    >>> layers_sum(tent, field), picture(tent, field, (point_at(0, 0), (1, 1), 6, 3), ((1, 1), (2, 1), (3, 1)))
    ((64, 3), '02320 \\n02220 \\n00000 ')
    >>> box = (point_at(0, 0), point_at(1, 3))
    >>> summit(tent, field, box)[1], check_summit(tent, field, box, summit_paper(tent, field, box))
    ((2, 1), True)
    """,
    14: """
    >>> from leastfield.plates import Plate
    >>> from leastfield.points import point_at
    >>> from leastfield.studio import Studio
    >>> studio = Studio(Plate(((0, 0), (4, 0), (4, 4), (0, 4)), ()))
    >>> studio.do(("tell", 0, (0, 1))), studio.do(("tell", 2, (1, 1))), studio.do(("side", 0, True)), studio.energy()
    ('done', 'done', 'told', (1, 4))
    >>> studio.do(("put", point_at(2, 0))), studio.field(), studio.energy()
    ('done', ((0, 1), (9, 19), (1, 1), (10, 19), (13, 38)), (9, 38))
    >>> studio.do(("undo",)), studio.energy(), studio.do(("put", point_at(5, 1))), studio.calls()[1:]
    ('done', (1, 4), 'outside', (('tell', 2, (1, 1)),))
    """,
    15: """
    >>> from leastfield.commands import call_text, read_call
    >>> from leastfield.desk import Desk
    >>> from leastfield.plates import Plate
    >>> from leastfield.sheets import contrary, sheet_holds
    >>> call_text(("knot", ((3, 2), (1, 1)), None)), read_call("tell 2 -7/2"), contrary("clear")
    ('knot 3/2,1 _', ('tell', 2, (-7, 2)), 'torn')
    >>> desk = Desk(Plate(((0, 0), (4, 0), (4, 4), (0, 4)), ()))
    >>> desk.say("energy"), desk.say("tell 0 0"), desk.say("tell 2 1"), desk.say("energy"), desk.say("side 9 on")
    (('refused', 'told'), ('did', 'done'), ('did', 'done'), ('told', (1, 4)), ('did', 'corner'))
    >>> [sheet_holds(word, question, value) for word, question, value in desk.shown()]
    [True, True, True, True]
    """,
}


class Examples(unittest.TestCase):
    def test_values_below_the_rows(self):
        for section, text in EXAMPLES.items():
            test = doctest.DocTestParser().get_doctest(text, {}, f"section {section}", None, 0)
            told = []
            result = doctest.DocTestRunner(verbose=False).run(test, out=told.append)
            self.assertEqual(result.failed, 0, "".join(told))
            self.assertGreater(result.attempted, 1)

    def test_readme(self):
        with open(README, encoding="utf-8") as file:
            test = doctest.DocTestParser().get_doctest(file.read(), {}, "README.md", None, 0)
        told = []
        result = doctest.DocTestRunner(verbose=False).run(test, out=told.append)
        self.assertEqual(result.failed, 0, "".join(told))
        self.assertGreater(result.attempted, 3)
