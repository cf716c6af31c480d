"""[1] to [3] and the interface: how all functions are called, and what kinds of things they return."""

import ast
import copy
import importlib
import inspect
import os

from tests.checks import Checks
from tests.nets import EXAMPLE
from tests.samples import FAN, FLAT, KITE, RING, SQUARE, STEEP, WINDOW, Mesh, Plate, at, is_deep_tuple
from leastfield.desk import Desk
from leastfield.studio import Studio

PACKAGE = os.path.join(os.path.dirname(os.path.dirname(os.path.abspath(__file__))), "leastfield")

A, B, C, D, P = at(0, 0), at(4, 0), at(1, 3), at(2, -1), at(1, 1)
F = ((0, 1), (4, 1), (8, 1), (0, 1), (2, 1))
G = ((1, 1), (0, 1), (1, 2), (0, 1), (-2, 3))
LOW = at(2, 1)
WORTHS = ((0, (0, 1)), (1, (2, 1)), (2, (1, 3)), (3, (4, 1)))
TOLD = ((0, (0, 1)), (1, (2, 1)), (3, (4, 1)))
SOME = ((1, 2), (-1, 3), (5, 1))
FAN_WORTHS = ((0, (0, 1)), (2, (1, 1)))
LEVEL = (3, 2)
FRAME = (at(0, 0), (1, 2), 6, 4)
TELLING = (((0, (0, 1)), (1, (4, 1))), (0,), ((at(2, 1), (1, 2)),))
STREAM = ((1, 1), (2, 1), (3, 1))
FLOWING = ((0, 1), (1, 1), (0, 1), (-1, 1))
FAN_MESH_PLACE = (0, ((1, 8), (3, 8), (1, 2)))
H = ((0, 1), (1, 1), (4, 1), (1, 3))
KNOTS = ((at(2, 0), False), (P, False))
BOX = (at(0, 0), at(1, 3))
MARKS = (1, 2, 3, 0)
PLACES = (P, LOW)
MOVE = (2, 1, -3, 4)

# For each module: name of the function, names of its parameters, arguments of a call, the places of sequences.
CALLS = {
    "fractions": [
        ("need_fraction", "value", [(1, 2)]), ("is_fraction", "value", [(1, 2)]), ("fraction", "top bottom", [4, -6]),
        ("whole", "number", [3]), ("plus", "one other", [(1, 2), (1, 3)]), ("minus", "one other", [(1, 2), (1, 3)]),
        ("times", "one other", [(1, 2), (2, 3)]), ("over", "one other", [(1, 2), (2, 3)]), ("negative", "one", [(1, 2)]),
        ("half", "one", [(3, 2)]), ("sign_of", "one", [(-1, 2)]), ("compared", "one other", [(1, 2), (1, 3)]),
        ("floor_of", "one", [(-1, 2)]), ("ceiling_of", "one", [(1, 2)]), ("total_of", "some", [SOME], 0),
        ("least_of", "some", [SOME], 0), ("greatest_of", "some", [SOME], 0),
        ("mean_of", "weights worths", [SOME, SOME], 0, 1), ("simplest", "low high", [(1, 3), (2, 3)]),
        ("fraction_text", "one", [(-7, 2)]), ("read_fraction", "value", ["-7/2"])],
    "points": [
        ("need_point", "value", [A]), ("is_point", "value", [A]), ("point_at", "x y", [1, -2]), ("middle", "a b", [A, C]),
        ("moved", "a b part", [A, C, (1, 3)]), ("doubled_area", "a b c", [A, B, C]), ("turn", "a b c", [A, B, C]),
        ("dot", "a b c", [A, B, C]), ("squared_distance", "a b", [A, C]), ("circle_number", "a b c d", [A, B, C, D]),
        ("circle_side", "a b c d", [A, B, C, D]), ("circle_centre", "a b c", [A, B, C]), ("parts_of", "a b c p", [A, B, C, P]),
        ("triangle_side", "a b c p", [A, B, C, D]), ("on_segment", "a b p", [A, B, P]), ("crosses", "a b c d", [A, B, C, D]),
        ("crossing_point", "a b c d", [A, B, C, D]), ("foot_of", "a b p", [A, C, P]),
        ("whole_area", "a b c", [(0, 0), (4, 0), (1, 3)]), ("whole_turn", "a b c", [(0, 0), (4, 0), (1, 3)]),
        ("whole_on", "a b p", [(0, 0), (4, 0), (1, 0)]), ("whole_crosses", "a b c d", [(0, 0), (4, 0), (1, 3), (2, -1)])],
    "plates": [
        ("is_corner", "value", [(0, 3)]), ("ring_sides", "ring", [WINDOW.outer]), ("need_ring", "value", [WINDOW.outer]),
        ("is_ring", "value", [WINDOW.outer]), ("ring_area", "ring", [WINDOW.outer]), ("turned_ring", "ring", [WINDOW.outer]),
        ("begun", "ring at", [WINDOW.outer, 2]), ("straightened", "ring", [((2, 0), (2, 2), (0, 0), (1, 0))]),
        ("Plate", "outer holes", [WINDOW.outer, WINDOW.holes]), ("is_plate", "value", [WINDOW]), ("need_plate", "value", [WINDOW]),
        ("corners_of", "plate", [WINDOW]), ("rings_of", "plate", [WINDOW]), ("sides_of", "plate", [WINDOW]),
        ("plate_area", "plate", [WINDOW]), ("one_form", "plate", [WINDOW]), ("same_plate", "one other", [WINDOW, SQUARE])],
    "inside": [
        ("ring_turns", "ring point", [WINDOW.outer, P]), ("ring_side", "ring point", [WINDOW.outer, P]),
        ("side_of", "plate point", [WINDOW, P]), ("where_in", "plate point", [WINDOW, A]), ("inner_point", "plate", [WINDOW]),
        ("strips_area", "plate", [WINDOW])],
    "meshes": [
        ("Mesh", "points triangles", [FAN.points, FAN.triangles]), ("mesh_of", "points triples", [FAN.points, FAN.triangles], 0, 1),
        ("need_mesh", "value", [FAN]), ("is_mesh", "value", [FAN]), ("plate_of", "mesh", [FAN]), ("fills", "plate mesh", [SQUARE, FAN]),
        ("edges_of", "mesh", [FAN]), ("inner_edges", "mesh", [FAN]), ("borders_of", "mesh", [FAN]),
        ("triangle_at", "mesh one other", [FAN, 4, 0]), ("opposites", "mesh edge", [FAN, (0, 4)]), ("border_rings", "mesh", [FAN]),
        ("counts", "mesh", [FAN]), ("mesh_area", "mesh", [FAN]), ("renumbered", "mesh order", [FAN, (4, 2, 3, 0, 1)]),
        ("by_points", "mesh", [FAN])],
    "places": [
        ("place_of", "mesh point", [FAN, LOW]), ("place_paper", "mesh point", [FAN, LOW]),
        ("check_place", "mesh point value", [FAN, LOW, FAN_MESH_PLACE]), ("outside_paper", "mesh point", [FAN, at(5, 1)]),
        ("check_outside", "mesh point value", [FAN, at(5, 1), (1, 0, 0, 2)]), ("field_at", "mesh field point", [FAN, F, LOW])],
    "flips": [
        ("bulge", "mesh edge", [STEEP, (2, 3)]), ("passes", "mesh edge", [STEEP, (2, 3)]), ("failing", "mesh", [STEEP]),
        ("can_flip", "mesh edge", [STEEP, (2, 3)]), ("new_edge", "mesh edge", [STEEP, (2, 3)]),
        ("flipped", "mesh edge", [STEEP, (2, 3)]), ("run_flips", "mesh edges", [STEEP, ((2, 3), (0, 1))], 1),
        ("lift_sum", "mesh", [STEEP]), ("cells", "mesh", [STEEP]), ("settling", "mesh", [STEEP]), ("settled", "mesh", [STEEP])],
    "weights": [
        ("cotangent", "a b c", [A, B, C]), ("weight", "mesh edge", [KITE, (0, 2)]), ("weights_of", "mesh", [KITE]),
        ("weight_by_circle", "mesh edge", [KITE, (0, 2)]), ("heavy_borders", "mesh", [FAN])],
    "diagonals": [
        ("in_cone", "before at after to", [(0, 4), (0, 0), (4, 0), (1, 1)]), ("sees", "plate one other", [SQUARE, 0, 2]),
        ("diagonals_of", "plate", [SQUARE]), ("is_diagonal", "plate value", [SQUARE, (0, 2)]),
        ("diagonals_cross", "plate pair other", [SQUARE, (0, 2), (1, 3)]), ("sure_diagonal", "plate", [SQUARE])],
    "first": [
        ("many_diagonals", "plate", [RING]), ("many_triangles", "plate", [RING]), ("is_parting", "plate value", [SQUARE, ((0, 2),)]),
        ("completed", "plate parting", [SQUARE, ()]), ("all_partings", "plate", [SQUARE]),
        ("mesh_of_parting", "plate parting", [SQUARE, ((0, 2),)]), ("first_mesh", "plate", [RING])],
    "networks": [
        ("is_network", "value", [EXAMPLE]), ("network_of", "mesh", [KITE]), ("pairs_of", "network point", [EXAMPLE, 2]),
        ("pull_of", "network point", [EXAMPLE, 2]), ("network_energy", "network worths", [EXAMPLE, WORTHS]),
        ("outflow", "network worths point", [EXAMPLE, WORTHS, 2]), ("tied_more", "network low high more", [EXAMPLE, 0, 1, (1, 2)]),
        ("dropped", "network point", [EXAMPLE, 2])],
    "elimination": [
        ("means_of", "network order", [EXAMPLE, (2, 0)], 1), ("reduced", "network stay", [EXAMPLE, (3, 0)], 1),
        ("settled_by", "network told order", [EXAMPLE, TOLD, (2,)], 2), ("settled_worths", "network told", [EXAMPLE, TOLD])],
    "putting": [
        ("put_in", "mesh point", [FAN, LOW]), ("field_put", "mesh field point", [FAN, F, LOW]), ("quartered", "mesh", [FAN]),
        ("middle_of", "mesh edge", [FAN, (0, 4)]), ("centre_of", "mesh number", [FAN, 2]),
        ("circle_centre_of", "mesh number", [FAN, 2]), ("foot_on", "mesh edge", [FAN, (0, 1)])],
    "slopes": [
        ("slope", "mesh number field", [FAN, 2, F]), ("linear_field", "mesh start right up", [FAN, (1, 2), (1, 1), (2, 1)]),
        ("triangle_energy", "mesh number field", [FAN, 2, F])],
    "energy": [
        ("mixed_energy", "mesh field other", [FAN, F, G]), ("energy", "mesh field", [FAN, F]),
        ("energy_by_triangles", "mesh field", [FAN, F]), ("unit_field", "mesh point", [FAN, 2])],
    "platetext": [
        ("plate_text", "plate", [WINDOW]), ("read_plate", "value", ["outer 0,0 6,0 6,6 0,6\nhole 2,2 2,4 4,4 4,2"])],
    "circles": [
        ("power", "mesh number point", [STEEP, 1, P]), ("seen_from", "mesh corner", [STEEP, 0]), ("held", "mesh", [STEEP]),
        ("clear_circles", "mesh", [STEEP]), ("clear_paper", "mesh", [KITE]), ("torn_paper", "mesh", [STEEP]),
        ("check_clear", "mesh value", [KITE, (((0, 2), 1, 3),)]), ("check_torn", "mesh value", [STEEP, ((2, 3), 1)])],
    "field": [
        ("need_worths", "mesh value", [FAN, FAN_WORTHS]), ("need_field", "mesh value", [FAN, F]),
        ("least_field", "mesh worths", [FAN, FAN_WORTHS]), ("flows", "mesh field", [FAN, F]),
        ("check_field", "mesh worths value", [FAN, FAN_WORTHS, F]), ("more_energy", "mesh field other", [FAN, F, G])],
    "bounds": [
        ("is_calm", "mesh worths", [FAN, FAN_WORTHS]), ("span_of", "worths", [FAN_WORTHS]), ("is_strict", "network", [EXAMPLE]),
        ("stream_of", "network worths", [EXAMPLE, WORTHS]), ("sources_of", "network stream", [EXAMPLE, STREAM]),
        ("is_stream", "network told value", [EXAMPLE, TOLD, STREAM]), ("stream_floor", "network told stream", [EXAMPLE, TOLD, STREAM]),
        ("least_paper", "mesh worths", [KITE, FAN_WORTHS]), ("check_least_paper", "mesh worths value", [KITE, FAN_WORTHS, (F, G)])],
    "streams": [
        ("edge_flows", "mesh field", [FAN, F]), ("cut_flow", "mesh field some", [FAN, F, (4, 0)], 2),
        ("check_stream_worths", "mesh field value", [KITE, FLOWING, ((0, 1), (3, 4))]), ("stream_worths", "mesh field", [KITE, FLOWING]),
        ("swirl", "mesh field other", [FAN, F, G]), ("round_sum", "mesh field other", [FAN, F, G])],
    "levels": [
        ("high_points", "mesh field level", [FAN, F, LEVEL]), ("gates", "mesh field level", [FAN, F, LEVEL]),
        ("gate_point", "mesh field level gate", [FAN, F, LEVEL, (1, 0)]), ("regions", "mesh field level", [FAN, F, LEVEL])],
    "tellings": [
        ("need_telling", "plate value", [SQUARE, TELLING]), ("told_worth", "plate telling point", [SQUARE, TELLING, P]),
        ("worths_of", "plate telling mesh", [SQUARE, TELLING, FAN]), ("times_telling", "telling often", [TELLING, LEVEL]),
        ("sum_of_tellings", "one other", [TELLING, TELLING]), ("is_told_by", "plate telling other", [SQUARE, TELLING, TELLING])],
    "studio": [("mesh_with", "plate knots", [SQUARE, (P, LOW)], 1), ("Studio", "plate", [SQUARE])],
    "peeling": [
        ("loose", "mesh gone", [FAN, (0,)]), ("peeled", "mesh", [FAN]), ("check_peeled", "mesh value", [FAN, (0, 1, 2)])],
    "bridges": [
        ("bridges_of", "plate", [RING]), ("walk_along", "plate bridges", [RING, ((1, 5),)]), ("walk_of", "plate", [RING]),
        ("walk_area", "plate walk", [RING, (0, 3, 4, 5, 3, 0, 1, 2)], 1)],
    "ears": [
        ("ears_of", "plate walk", [RING, (0, 3, 4, 5, 3, 0, 1, 2)], 1), ("ear_cut", "walk place", [(0, 1, 2, 3), 1], 0),
        ("mesh_by_ears", "plate", [RING])],
    "lumps": [
        ("lumps", "mesh", [FAN]), ("warmth", "mesh field", [FAN, F]), ("gap_square", "mesh field other", [FAN, F, G])],
    "lines": [
        ("open_lines", "mesh field level", [FAN, F, LEVEL]), ("closed_lines", "mesh field level", [FAN, G, (-1, 2)]),
        ("line_points", "mesh field level line", [FAN, F, LEVEL, ((2, 3), (4, 3), (4, 0), (1, 0))]),
        ("surrounded", "mesh line", [FAN, ((4, 0), (4, 1), (4, 2), (4, 3))])],
    "layers": [
        ("line_flow", "mesh field line", [FAN, F, ((2, 3), (4, 3), (4, 0), (1, 0))], 2), ("flow_over", "mesh field level", [FAN, F, LEVEL]),
        ("ladder", "mesh field", [FAN, F]), ("area_above", "mesh field level", [FAN, F, LEVEL]), ("layers_sum", "mesh field", [FAN, F])],
    "raster": [
        ("need_frame", "value", [FRAME]), ("spots", "frame", [FRAME]), ("sampled", "mesh field frame", [FAN, F, FRAME]),
        ("picture", "mesh field frame levels", [FAN, F, FRAME, SOME], 3)],
    "commands": [("call_text", "call", [("knot", P, None)]), ("read_call", "value", ["tell 2 -7/2"])],
    "lowering": [
        ("jump", "mesh field edge", [STEEP, H, (2, 3)]), ("energy_change", "mesh field edge", [STEEP, H, (2, 3)]),
        ("energies_along", "mesh field edges", [STEEP, H, ((2, 3), (0, 1))], 2)],
    "finer": [
        ("need_knots", "value", [KNOTS]), ("finer", "mesh worths knots", [FAN, FAN_WORTHS, KNOTS]),
        ("finer_rows", "mesh worths knots", [FAN, FAN_WORTHS, KNOTS]),
        ("check_finer", "mesh worths knots value", [FAN, FAN_WORTHS, KNOTS, (F, G)]), ("fall", "mesh worths knots", [FAN, FAN_WORTHS, KNOTS]),
        ("fall_parts", "mesh worths point", [FAN, FAN_WORTHS, P])],
    "halving": [
        ("longest_edge", "mesh", [FAN]), ("halvings", "mesh size", [FAN, (9, 1)]), ("halved", "mesh size", [FAN, (9, 1)]),
        ("halvings_bound", "mesh size", [FAN, (9, 1)])],
    "feet": [
        ("is_upright", "plate", [WINDOW]), ("wild_edges", "mesh worths", [FAN, FAN_WORTHS]), ("calmed", "mesh worths most", [FAN, FAN_WORTHS, 5]),
        ("feet_bound", "mesh", [FAN])],
    "marks": [
        ("need_marks", "mesh value", [FAN, MARKS]), ("arcs_of", "mesh marks", [FAN, MARKS]), ("across_worths", "mesh marks", [FAN, MARKS]),
        ("along_worths", "mesh marks", [FAN, MARKS]), ("bracket_paper", "mesh marks", [FAN, MARKS]), ("bracket", "mesh marks", [FAN, MARKS]),
        ("check_bracket", "mesh marks low high value", [FAN, MARKS, (0, 1), (9, 1), (F, G)])],
    "resistance": [
        ("conductance", "mesh source drain", [FAN, (0, 4), (2,)], 1, 2), ("resistance", "mesh one other", [FAN, 0, 2]),
        ("potential", "mesh one other", [FAN, 0, 2]), ("resistances", "mesh", [FAN])],
    "warming": [
        ("need_time", "value", [LEVEL]), ("with_told", "field worths", [F, FAN_WORTHS]),
        ("memory_network", "mesh worths field time", [FAN, FAN_WORTHS, F, LEVEL]), ("step", "mesh worths field time", [FAN, FAN_WORTHS, F, LEVEL]),
        ("steps", "mesh worths field some", [FAN, FAN_WORTHS, F, (LEVEL, (1, 3))], 3),
        ("check_step", "mesh worths field time value", [FAN, FAN_WORTHS, F, LEVEL, G]), ("spread", "mesh told time", [FAN, (0, 2), LEVEL])],
    "cooling": [
        ("resistances_to", "mesh told", [FAN, (0, 2)]), ("slowness", "mesh told", [FAN, (0, 2)]), ("shrinks", "mesh told time", [FAN, (0, 2), LEVEL]),
        ("gap_bound", "mesh worths field some", [FAN, FAN_WORTHS, F, (LEVEL, (1, 3))], 3),
        ("steps_enough", "mesh worths field time small", [FAN, FAN_WORTHS, F, (40, 1), (1, 99)])],
    "responses": [
        ("sum_of_fields", "parts", [(((1, 2), F), ((-1, 3), G))], 0), ("share_fields", "mesh told", [FAN, (0, 2)]),
        ("response", "mesh told", [FAN, (0, 2)]), ("response_of_network", "network", [EXAMPLE]), ("reduced_response", "mesh told", [FAN, (0, 2)])],
    "stars": [("inner_points", "mesh", [FAN]), ("star_of", "mesh number", [FAN, 4]), ("triangles_round", "mesh number", [FAN, 1])],
    "stretches": [
        ("meetings", "plate a b", [WINDOW, A, D]), ("stretches", "plate a b", [WINDOW, at(0, 3), at(6, 3)]), ("lies_in", "plate a b", [WINDOW, A, P])],
    "summits": [
        ("need_box", "value", [BOX]), ("summit", "mesh field box", [FAN, F, BOX]), ("summit_paper", "mesh field box", [FAN, F, BOX]),
        ("check_summit", "mesh field box value", [FAN, F, BOX, (F, G)])],
    "desk": [("Desk", "plate", [SQUARE]), ("run_lines", "plate lines", [SQUARE, ("tell 0 1", "energy", "mesh", "at 9,9")], 1)],
    "runs": [
        ("run", "plate calls", [SQUARE, (("tell", 0, (1, 2)), None, ("undo",))], 1),
        ("energy_with", "plate telling knots", [SQUARE, TELLING, PLACES], 2), ("whole_paper", "plate telling knots", [SQUARE, TELLING, PLACES], 2),
        ("check_whole_paper", "plate telling knots value", [SQUARE, TELLING, PLACES, (FAN, F)], 2), ("pair_by", "move pair", [MOVE, (3, 1)]),
        ("point_by", "move point", [MOVE, P]), ("plate_by", "move plate", [MOVE, WINDOW]), ("telling_by", "move telling", [MOVE, TELLING])],
    "sheets": [
        ("sheet_holds", "word question value", ["field", (FAN, FAN_WORTHS), F]), ("sheet_for", "word question", ["whole", (SQUARE, TELLING, PLACES)]),
        ("contrary", "word", ["torn"])],
    "ways": [
        ("alike", "mesh other", [STEEP, FLAT]), ("lift_at", "mesh point", [FAN, P]), ("sharpest", "mesh", [STEEP]),
        ("way_between", "mesh other", [STEEP, FLAT])],
}


def every_call():
    for module, rows in CALLS.items():
        for name, words, arguments, *sequences in rows:
            yield getattr(importlib.import_module("leastfield." + module), name), words.split(), arguments, sequences


def told(value):
    """A value written out, so that bools and integers, lists and tuples are not the same."""
    if isinstance(value, Mesh):
        return f"Mesh({value.points!r}, {value.triangles!r})"
    if isinstance(value, Plate):
        return f"Plate({value.outer!r}, {value.holes!r})"
    if isinstance(value, Studio):
        return f"Studio({told(value.plate)}, {told(value.mesh())}, {value.telling()!r}, {value.calls()!r})"
    if isinstance(value, Desk):
        return f"Desk({told(value.studio)}, {value.said()!r})"
    if isinstance(value, (tuple, list)):
        return f"{value.__class__.__name__}({', '.join([told(one) for one in value])})"
    return repr(value)


class Calls(Checks):
    def test_names_of_parameters(self):
        for call, words, arguments, _ in every_call():
            self.assertEqual(list(inspect.signature(call).parameters), words, call)
            self.assertEqual(len(arguments), len(words), call)

    def test_by_position_and_by_names(self):
        for call, words, arguments, _ in every_call():
            expected = told(call(*arguments))
            self.assertEqual(told(call(**dict(zip(words, arguments)))), expected, call)
            self.assertEqual(told(call(arguments[0], **dict(zip(words[1:], arguments[1:])))), expected, call)

    def test_sequences_as_lists_and_as_tuples(self):
        for call, words, arguments, sequences in every_call():
            expected = told(call(*arguments))
            for places in (sequences, sequences[:1], sequences[1:]):
                changed = [list(one) if k in places else one for k, one in enumerate(arguments)]
                self.assertEqual(told(call(*changed)), expected, call)

    def test_tuples_are_returned_within_too(self):
        for call, words, arguments, _ in every_call():
            self.assertTrue(is_deep_tuple(call(*arguments)), call)

    def test_equal_calls_and_unchanged_arguments(self):
        results = []
        for call, words, arguments, sequences in every_call():
            changed = [list(one) if k in sequences else one for k, one in enumerate(arguments)]
            before = told([told(one) for one in changed])
            results.append(told(call(*copy.deepcopy(changed))))
            self.assertEqual(told(call(*changed)), results[-1], call)
            self.assertEqual(told([told(one) for one in changed]), before, call)
        again = [told(call(*arguments)) for call, _, arguments, _ in every_call()]
        self.assertEqual(again, results)

    def test_later_changes_have_no_effect(self):
        for call, words, arguments, sequences in every_call():
            if sequences:
                changed = [list(one) if k in sequences else one for k, one in enumerate(arguments)]
                result = call(*changed)
                before = told(result)
                for place in sequences:
                    changed[place].clear()
                self.assertEqual(told(result), before, call)

    def test_objects_are_not_iterable_and_have_no_length(self):
        for one in (FAN, WINDOW, Studio(SQUARE), Desk(SQUARE)):
            for call in (iter, len):
                with self.assertRaises(TypeError):
                    call(one)

    def test_classes_have_their_own_methods(self):
        for kind in (Mesh, Plate):
            self.assertIn("__eq__", vars(kind))


class Interface(Checks):
    def test_each_name_is_defined_in_its_file(self):
        for module, rows in CALLS.items():
            with open(os.path.join(PACKAGE, module + ".py"), encoding="utf-8") as file:
                tree = ast.parse(file.read())
            defined = {node.name for node in tree.body if isinstance(node, (ast.FunctionDef, ast.ClassDef))}
            self.assertEqual({row[0] for row in rows} - defined, set(), module)

    def test_nothing_is_forgotten_here(self):
        many = {module: len(rows) for module, rows in CALLS.items()}
        self.assertEqual(many, {"fractions": 21, "points": 22, "plates": 17, "inside": 6, "meshes": 16, "places": 6, "flips": 11,
                                "weights": 5, "diagonals": 6, "first": 7, "networks": 8, "elimination": 4, "putting": 7,
                                "slopes": 3, "energy": 4, "platetext": 2, "circles": 8, "field": 6, "bounds": 9, "streams": 6,
                                "levels": 4, "tellings": 6, "studio": 2, "peeling": 3, "bridges": 4, "ears": 3, "lumps": 3, "lines": 4,
                                "layers": 5, "raster": 4, "commands": 2, "lowering": 3, "finer": 6, "halving": 4, "feet": 4, "marks": 7,
                                "resistance": 4, "warming": 7, "cooling": 5, "responses": 5, "stars": 3, "stretches": 3, "summits": 4,
                                "desk": 2, "runs": 8, "sheets": 3, "ways": 4})
