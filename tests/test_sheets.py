"""[82] and [83] Sheets."""

from fractions import Fraction
from random import Random

from leastfield import sheets as module
from leastfield.bounds import is_calm
from leastfield.circles import check_clear, check_torn
from leastfield.ears import mesh_by_ears
from leastfield.energy import energy
from leastfield.errors import InvalidSize, NoName, Refused
from leastfield.field import check_field, least_field
from leastfield.finer import check_finer
from leastfield.first import all_partings, completed, first_mesh, is_parting, many_diagonals
from leastfield.flips import failing, settled
from leastfield.marks import across_worths, bracket, bracket_paper
from leastfield.meshes import Mesh, border_rings, counts, fills, is_mesh
from leastfield.peeling import check_peeled
from leastfield.places import check_outside, check_place
from leastfield.plates import Plate
from leastfield.runs import check_whole_paper
from leastfield.streams import check_stream_worths, stream_worths
from leastfield.studio import mesh_with
from leastfield.tellings import worths_of
from tests.checks import Checks
from tests.grown import ALL_GROWN, random_worths
from tests.samples import (ANY, COMB, DART, FAN, KITE, MANY_SMALL, MESHES, ONE, RING, RING_MESH, SPIRAL, SQUARE, STEEP, STRAIGHT,
                           TRIANGLE, TWO_HOLES, WINDOW, at, frac, random_field, spoiled, worth_of)
from tests.test_field import wrong_field, wrong_worths, is_right_fraction
from tests.test_finer import random_knots, right_knots, wrong_knot
from tests.test_marks import random_marks, wrong_mark
from tests.test_places import some_points
from tests.test_runs import some_knots
from tests.test_studio import is_right_point
from tests.test_tellings import wrong_part
from tests.told import random_telling, where

KINDS = "mesh parting place outside peeled clear torn field rows streams bracket whole".split()
PLATES = [SQUARE, DART, RING, WINDOW, STRAIGHT, TRIANGLE, TWO_HOLES, COMB, SPIRAL]
ALL = [mesh for mesh in list(MESHES.values()) + MANY_SMALL[:2] + ALL_GROWN if len(mesh.points) <= 16]
WHOLE = [mesh for mesh in ALL if counts(mesh)[4] == 0]
CONTRARY = {"place": "outside", "outside": "place", "clear": "torn", "torn": "clear"}


def some_questions(seed):
    """Right questions of all kinds."""
    random = Random(seed)
    for plate in PLATES:
        yield "mesh", plate
        yield "parting", plate
        for many in (0, 2, 3):
            yield "whole", (plate, random_telling(random, plate), some_knots(random, plate, many))
        yield "whole", (plate, ((), (), ()), ())
    for k, mesh in enumerate(ALL):
        for point in list(some_points(mesh, seed + k))[::5]:
            yield "place", (mesh, point)
            yield "outside", (mesh, point)
        yield "clear", mesh
        yield "torn", mesh
        worths = random_worths(random, mesh)
        yield "field", (mesh, worths)
        if len(mesh.points) < 11:
            yield "rows", (mesh, worths, right_knots(random, mesh, worths, 2))
            yield "rows", (mesh, worths, random_knots(random, mesh, 2))
        border = tuple((n, (n % 3, 1)) for n in sorted(sum(border_rings(mesh), ())))
        yield "streams", (mesh, least_field(mesh, border))
        yield "streams", (mesh, random_field(random, mesh))
    for mesh in WHOLE:
        yield "peeled", mesh
        if len(border_rings(mesh)[0]) > 3:
            marks = random_marks(random, mesh)
            low, high = [worth_of(one) for one in bracket(mesh, marks)]
            for down, up in ((low, high), (low - 1, high + 1), (low + Fraction(1, 9), high), (low, high - Fraction(1, 9))):
                yield "bracket", (mesh, marks, frac(down), frac(up))


def has_some(word, question):
    """Whether a right question has a right sheet, by the words of [83]."""
    if word in ("place", "outside"):
        inside = any(check_place(question[0], question[1], (n, parts)) for n, parts in
                     [(n, module.place_paper(*question)[1]) for n in range(len(question[0].triangles)) if module.place_paper(*question)])
        return inside if word == "place" else not inside
    if word in ("clear", "torn"):
        return (failing(question) == ()) == (word == "clear")
    if word == "rows":
        try:
            module.finer_rows(*question)
        except Refused:
            return False
        return True
    if word == "streams":
        try:
            stream_worths(*question)
        except Refused:
            return False
        return True
    if word == "bracket":
        mesh, marks, low, high = question
        less, more = bracket(mesh, marks)
        return worth_of(low) <= worth_of(less) and worth_of(high) >= worth_of(more)
    if word == "whole":
        plate, telling, knots = question
        return worths_of(plate, telling, mesh_with(plate, knots)) != ()
    return True


def holds_by_parts(word, question, value):
    """What the functions tell that the table of [82] names."""
    calls = {"place": check_place, "outside": check_outside, "field": check_field, "rows": check_finer, "streams": check_stream_worths,
             "bracket": module.check_bracket, "whole": check_whole_paper}
    if word in calls:
        return calls[word](*question, value)
    if word == "mesh":
        return fills(question, value)
    if word == "parting":
        return is_parting(question, value) and len(value) == many_diagonals(question)
    return {"peeled": check_peeled, "clear": check_clear, "torn": check_torn}[word](question, value)


def is_right_question(word, value):
    """By the words of [82], with what other tests tell of worths, fields and the like."""
    if word in ("mesh", "parting"):
        return isinstance(value, Plate)
    if word in ("clear", "torn"):
        return is_mesh(value)
    if word == "peeled":
        return is_mesh(value) and counts(value)[4] == 0
    many = {"place": 2, "outside": 2, "field": 2, "streams": 2, "rows": 3, "whole": 3, "bracket": 4}[word]
    if not isinstance(value, tuple) or len(value) != many:
        return False
    if word == "whole":
        plate, telling, knots = value
        return (isinstance(plate, Plate) and wrong_part(plate, telling) is None and isinstance(knots, tuple)
                and all(is_right_point(point) and where(plate, point)[0] in ("side", "inside") for point in knots) and len(set(knots)) == len(knots))
    mesh = value[0]
    if not is_mesh(mesh):
        return False
    if word in ("place", "outside"):
        return is_right_point(value[1])
    if word == "streams":
        return wrong_field(mesh, value[1]) is None
    if word == "bracket":
        return counts(mesh)[4] == 0 and wrong_mark(mesh, value[1]) is None and all(is_right_fraction(one) for one in value[2:])
    return wrong_worths(mesh, value[1]) is None and (word == "field" or wrong_knot(value[2]) is None)


RIGHT = {
    "mesh": DART, "parting": SQUARE, "place": (FAN, at(2, 1)), "outside": (FAN, at(5, 1)), "peeled": KITE, "clear": KITE, "torn": STEEP,
    "field": (ONE, ((0, (0, 1)), (1, (1, 1)))), "rows": (ONE, ((0, (0, 1)), (1, (1, 1))), ((at(1, 0), True),)),
    "streams": (KITE, ((0, 1), (1, 1), (0, 1), (-1, 1))),
    "bracket": (KITE, (0, 1, 2, 3), (0, 1), (9, 1)), "whole": (TRIANGLE, (((0, (0, 1)),), (), ((at(2, 2), (1, 1)),)), (at(2, 2),)),
}


class Sheets(Checks):
    def test_some_sheet_is_there_or_none(self):
        seen = {}
        for seed in range(2):
            for word, question in some_questions(seed):
                expected = has_some(word, question)
                found = module.sheet_for(word, question)
                self.assertIs(found is not None, expected, (word, question))
                seen[word, expected] = seen.get((word, expected), 0) + 1
                if expected:
                    self.assertIs(module.sheet_holds(word, question, found), True)
                    self.assertIs(holds_by_parts(word, question, found), True)
                for value in (None, (), found if found is None else (found,), FAN):
                    if value is not found:
                        self.assertIs(module.sheet_holds(word, question, value), holds_by_parts(word, question, value))
        self.assertEqual({word for word, _ in seen}, set(KINDS))
        self.assertEqual({word for word, right in seen if not right}, {"place", "outside", "clear", "torn", "rows", "streams", "bracket", "whole"})

    def test_just_one_of_both_has_sheets(self):
        for word, question in some_questions(5):
            other = module.contrary(word)
            if other is not None:
                found = [module.sheet_for(word, question), module.sheet_for(other, question)]
                self.assertEqual(found.count(None), 1)

    def test_other_right_sheets(self):
        for plate in PLATES:
            for mesh in (first_mesh(plate), mesh_by_ears(plate), settled(first_mesh(plate)), mesh_with(plate, some_knots(Random(1), plate, 2))):
                self.assertIs(module.sheet_holds("mesh", plate, mesh), True)
                self.assertIs(module.sheet_holds("mesh", COMB if plate is not COMB else RING, mesh), False)
        for parting in all_partings(STRAIGHT):
            self.assertIs(module.sheet_holds("parting", STRAIGHT, parting), True)
            for k in range(len(parting)):
                self.assertIs(module.sheet_holds("parting", STRAIGHT, parting[:k] + parting[k + 1:]), False)
        self.assertIs(module.sheet_holds("parting", TRIANGLE, ()), True)
        self.assertIs(module.sheet_holds("parting", SQUARE, ()), False)
        self.assertIs(module.sheet_holds("torn", STEEP, ((2, 3), 0)), True)
        self.assertIs(module.sheet_holds("torn", STEEP, ((2, 3), 1)), True)
        self.assertIs(module.sheet_holds("torn", STEEP, ((2, 3), 2)), False)
        self.assertIs(module.sheet_holds("place", (FAN, at(0, 0)), (1, ((1, 1), (0, 1), (0, 1)))), True)
        mesh, marks = KITE, (0, 1, 2, 3)
        table = dict(across_worths(mesh, marks))
        self.assertEqual(len(table), 4)
        self.assertIs(module.sheet_holds("bracket", (mesh, marks, (0, 1), (99, 1)), bracket_paper(mesh, marks)), True)

    def test_a_field_sheet_is_the_only_one(self):
        random = Random(6)
        for mesh in ALL[::3]:
            worths = random_worths(random, mesh)
            least = module.sheet_for("field", (mesh, worths))
            for _ in range(3):
                other = dict(enumerate(random_field(random, mesh)))
                other.update(dict(worths))
                row = tuple(other[k] for k in range(len(mesh.points)))
                self.assertIs(module.sheet_holds("field", (mesh, worths), row), row == least)
                self.assertLessEqual(worth_of(energy(mesh, least)), worth_of(energy(mesh, row)))

    def test_what_is_shown_on_a_calm_mesh(self):
        self.assertIs(is_calm(KITE, ((0, (0, 1)),)), True)
        self.same(module.sheet_for("field", (KITE, ((0, (1, 2)),))), ((1, 2),) * 4)
        self.same(module.sheet_for("parting", SQUARE), completed(SQUARE, ()))


class Errors(Checks):
    def test_any_word(self):
        for word in ANY + ("Mesh", "mesh ", "meshes", "", ("mesh",), ["mesh"], "wholes", "bracket\n"):
            self.assertNotIn(word, KINDS)
            self.raises(NoName, word, module.contrary, word)
            for question in (SQUARE, FAN, None, (FAN, at(1, 1))):
                self.raises(NoName, word, module.sheet_for, word, question)
                self.assertIs(module.sheet_holds(word, question, FAN), False)

    def test_contraries(self):
        for word in KINDS:
            self.same(module.contrary(word), CONTRARY.get(word))

    def test_right_questions(self):
        for word, question in RIGHT.items():
            self.assertTrue(is_right_question(word, question))
            found = module.sheet_for(word, question)
            self.assertIsNotNone(found)
            self.assertIs(module.sheet_holds(word, question, found), True)

    def test_any_question(self):
        meshes = (Mesh(list(FAN.points), FAN.triangles), Mesh(FAN.points, FAN.triangles[::-1]), Mesh(FAN.points, ()), RING_MESH, FAN, STEEP)
        for word in KINDS:
            right = RIGHT[word]
            sheet = module.sheet_for(word, right)
            values = ANY + tuple(spoiled(right)) + meshes + (SQUARE, WINDOW) + tuple(RIGHT.values())
            if isinstance(right, tuple):
                values += tuple((first,) + right[1:] for first in meshes + (SQUARE, WINDOW, None)) + (right[:1], right[::-1])
            for value in values:
                if is_right_question(word, value):
                    found = module.sheet_for(word, value)
                    if found is not None:
                        self.assertIs(module.sheet_holds(word, value, found), True)
                    continue
                self.raises(InvalidSize, "question", module.sheet_for, word, value)
                self.assertIs(module.sheet_holds(word, value, sheet), False)

    def test_questions_by_hand(self):
        telling = (((0, (0, 1)), (1, (4, 1))), (0,), ())
        for word, question in (
                ("peeled", RING_MESH), ("bracket", (RING_MESH, (0, 1, 2, 3), (0, 1), (1, 1))), ("bracket", (KITE, (0, 2, 1, 3), (0, 1), (1, 1))),
                ("bracket", (KITE, (0, 1, 2, 3), 0, (1, 1))), ("field", (FAN, ())), ("field", (FAN, ((9, (0, 1)),))), ("streams", (FAN, ((0, 1),) * 4)),
                ("rows", (FAN, ((0, (0, 1)),), [])), ("rows", (FAN, ((0, (0, 1)),), ((at(1, 1), 1),))), ("whole", (SQUARE, telling, (at(0, 0),))),
                ("whole", (SQUARE, telling, (at(5, 0),))), ("whole", (SQUARE, telling, (at(1, 1), at(1, 1)))), ("whole", (SQUARE, telling, [at(1, 1)])),
                ("whole", (SQUARE, (((0, (0, 1)),), (0,), ()), ())), ("whole", (SQUARE, ((), (), ((at(0, 0), (1, 1)),)), ())),
                ("whole", (FAN, telling, ())), ("mesh", FAN), ("mesh", (SQUARE,)), ("parting", "square"), ("place", (FAN, (0, 0))), ("clear", (KITE,))):
            self.raises(InvalidSize, "question", module.sheet_for, word, question)
            self.assertIs(module.sheet_holds(word, question, None), False)
        # A knot that is refused makes no wrong question: there is no sheet.
        self.assertIsNone(module.sheet_for("rows", (FAN, ((0, (0, 1)),), ((at(9, 9), False),))))
        self.assertIsNone(module.sheet_for("whole", (SQUARE, ((), (), ()), (at(1, 1),))))

    def test_any_value(self):
        for word, question in RIGHT.items():
            right = module.sheet_for(word, question)
            for value in ANY + tuple(spoiled(right)) + (right[::-1] if isinstance(right, tuple) else None,):
                expected = holds_by_parts(word, question, value)
                self.assertIs(module.sheet_holds(word, question, value), expected)
                if value is not None and not isinstance(value, (tuple, Mesh)):
                    self.assertIs(expected, False)
