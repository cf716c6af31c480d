"""[77] to [79] Studios."""

import inspect
from random import Random

from leastfield import studio as module
from leastfield.bounds import is_calm
from leastfield.circles import clear_circles
from leastfield.energy import energy
from leastfield.errors import InvalidPlate, Refused
from leastfield.field import check_field, flows, least_field
from leastfield.first import first_mesh
from leastfield.flips import failing, settled
from leastfield.meshes import by_points, fills
from leastfield.places import field_at
from leastfield.putting import put_in
from leastfield.studio import Studio, mesh_with
from leastfield.tellings import need_telling, worths_of
from tests.checks import Checks
from tests.samples import ANY, RING, SQUARE, STRAIGHT, WINDOW, at, frac, random_frac, spoiled, worth_of
from tests.test_field import is_right_fraction
from tests.told import SOME, corners, random_place, sides, where

NOTHING = ((), (), ())


def is_right_point(value):
    return isinstance(value, tuple) and len(value) == 2 and all(is_right_fraction(one) for one in value)


def is_right_call(value):
    """Whether a value has the form of a call, by the words of [78]."""
    if not isinstance(value, tuple) or not value or not isinstance(value[0], str):
        return False
    word, things = value[0], value[1:]
    if word in ("undo", "redo"):
        return things == ()
    if word in ("put", "take"):
        return len(things) == 1 and is_right_point(things[0])
    if word not in ("tell", "side", "knot") or len(things) != 2:
        return False
    if word == "side":
        return things[1] is True or things[1] is False
    return (word == "tell" or is_right_point(things[0])) and (things[1] is None or is_right_fraction(things[1]))


class Model:
    """What [78] says of calls, on dicts and lists."""

    def __init__(self, plate):
        self.plate = plate
        self.past = []
        self.ahead = []
        self.now = ({}, set(), {}, [])

    def do(self, call):
        if not is_right_call(call):
            return "call"
        if call[0] in ("undo", "redo"):
            rows, others = (self.past, self.ahead) if call[0] == "undo" else (self.ahead, self.past)
            if not rows:
                return "nothing"
            done, state = rows.pop()
            others.append((done, self.now))
            self.now = state
            return "done"
        told, on, knots, row = dict(self.now[0]), set(self.now[1]), dict(self.now[2]), list(self.now[3])
        word = getattr(self, call[0])(told, on, knots, row, *call[1:])
        if word is None and (told, on, knots, row) == self.now:
            word = "nothing"
        if word is not None:
            return word
        self.past.append((call, self.now))
        self.ahead = []
        self.now = (told, on, knots, row)
        return "done"

    def is_no_corner(self, corner):
        return type(corner) is not int or not 0 <= corner < len(corners(self.plate))

    def tell(self, told, on, knots, row, corner, worth):
        if self.is_no_corner(corner):
            return "corner"
        if worth is None:
            if any(corner in sides(self.plate)[k] for k in on):
                return "told"
            told.pop(corner, None)
        else:
            told[corner] = worth

    def side(self, told, on, knots, row, corner, flag):
        if self.is_no_corner(corner):
            return "corner"
        if not flag:
            on.discard(corner)
            return None
        if any(end not in told for end in sides(self.plate)[corner]):
            return "told"
        if any(where(self.plate, point) == ("side", corner) for point in knots):
            return "knot"
        on.add(corner)

    def put(self, told, on, knots, row, point):
        place = where(self.plate, point)[0]
        if place in ("outside", "corner"):
            return place
        if point in row:
            return "knot"
        row.append(point)

    def take(self, told, on, knots, row, point):
        if point not in row:
            return "knot"
        if point in knots:
            return "told"
        row.remove(point)

    def knot(self, told, on, knots, row, point, worth):
        if point not in row:
            return "knot"
        place = where(self.plate, point)
        if place[0] == "side" and place[1] in on:
            return "told"
        if worth is None:
            knots.pop(point, None)
        else:
            knots[point] = worth

    def telling(self):
        return (tuple(sorted(self.now[0].items())), tuple(sorted(self.now[1])), tuple(sorted(self.now[2].items())))


WRONG = (None, (), [], "tell", ("tell",), ("tell", 0), ("tell", 0, 1), ("tell", 0, (2, 4)), ("tell", 0, (1, 1), 1), ["tell", 0, (1, 1)],
         ("side", 0, 1), ("side", 0, 0), ("side", 0, None), ("side", 0), ("put",), ("put", (1, 1)), ("put", None), ("undo", 1), ("redo", None),
         ("knot", at(1, 1)), ("knot", at(1, 1), True), ("knot", (1, 1), None), ("take", at(1, 1), None), ("Tell", 0, None), (None, 0, None),
         ("calls",), ("twin",), ("do", ("undo",)), (("undo",),), ("", 1), ("tell", None, None, None), ["undo"], ("put", [(1, 1), (1, 1)]))


def random_call(random, plate, knots):
    """A call of any kind, right or wrong, often about things that are there."""
    many = len(corners(plate))
    corner = random.choice([random.randrange(many)] * 12 + [-1, many, True, None, "0", (0,), 10 ** 30])
    point = random.choice(knots) if knots and random.random() < 0.75 else random_place(random, plate)
    worth = random.choice([random_frac(random), random_frac(random), None])
    kind = random.randint(0, 19)
    if kind < 5:
        return ("tell", corner, worth)
    if kind < 8:
        return ("side", corner, random.random() < 0.8)
    if kind < 12:
        return ("put", random_place(random, plate))
    if kind < 14:
        return ("take", point)
    if kind < 16:
        return ("knot", point, worth)
    if kind < 18:
        return ("undo",)
    return ("redo",) if kind == 18 else random.choice(WRONG)


def all_told(studio):
    """All that a studio tells, written out."""
    row = [studio.knots(), studio.telling(), studio.mesh().points, studio.mesh().triangles, studio.worths(), studio.calls(),
           studio.depth(), studio.is_calm()]
    if studio.worths():
        row += [studio.field(), studio.energy(), studio.flows(), studio.span(), studio.worth_at(at(*studio.plate.outer[0]))]
    return repr(row)


class Meshes(Checks):
    def some_knots(self, random, plate, many):
        found = []
        while len(found) < many:
            point = random_place(random, plate)
            if where(plate, point)[0] in ("side", "inside") and point not in found:
                found.append(point)
        return found

    def test_by_words(self):
        random = Random(1)
        for plate in SOME:
            knots = self.some_knots(random, plate, 4)
            mesh = settled(first_mesh(plate))
            self.assertEqual(mesh_with(plate, ()), mesh)
            for k, knot in enumerate(knots):
                mesh = settled(put_in(mesh, knot))
                self.assertEqual(mesh_with(plate, knots[:k + 1]), mesh)
                self.assertEqual(mesh_with(plate, tuple(knots[:k + 1])), mesh)
            self.assertTrue(fills(plate, mesh))
            self.same(mesh.points, tuple(at(*corner) for corner in corners(plate)) + tuple(knots))

    def test_all_orders_lead_to_one_mesh(self):
        random = Random(2)
        for plate in SOME:
            knots = self.some_knots(random, plate, 5)
            telling = (((0, (0, 1)), (1, (3, 1)), (2, (-1, 2))), (0,), ())
            mesh = mesh_with(plate, knots)
            field = least_field(mesh, worths_of(plate, telling, mesh))
            for _ in range(4):
                other = mesh_with(plate, random.sample(knots, len(knots)))
                self.assertEqual(settled(by_points(other)), settled(by_points(mesh)))
                found = least_field(other, worths_of(plate, telling, other))
                self.same(energy(other, found), energy(mesh, field))
                self.assertEqual(dict(zip(other.points, found)), dict(zip(mesh.points, field)))

    def test_refused(self):
        for word, knots in (("outside", [at(5, 1)]), ("knot", [at(4, 4)]), ("knot", [at(1, 1), at(1, 1)]),
                            ("outside", [at(1, 1), at(-1, 0), at(1, 1)]), ("knot", [at(1, 1), at(0, 0), at(-1, 0)]),
                            ("knot", [at(2, 0), at(1, 1), at(2, 0)])):
            self.raises(Refused, word, mesh_with, SQUARE, knots)
            self.raises(Refused, word, mesh_with, SQUARE, tuple(knots))
        self.raises(Refused, "outside", mesh_with, WINDOW, [at(3, 3)])
        self.raises(Refused, "knot", mesh_with, STRAIGHT, [at(2, 0)])
        self.assertEqual(len(mesh_with(WINDOW, [at(2, 3), at(1, 1)]).points), 10)


class Beginning(Checks):
    def test_nothing_is_told(self):
        for plate in SOME:
            studio = Studio(plate)
            self.assertIs(studio.plate, plate)
            self.same((studio.knots(), studio.telling(), studio.worths(), studio.calls(), studio.depth()), ((), NOTHING, (), (), (0, 0)))
            self.assertEqual(studio.mesh(), settled(first_mesh(plate)))
            self.assertIs(studio.is_calm(), is_calm(studio.mesh(), ()))
            for call in (studio.field, studio.energy, studio.flows, studio.span):
                self.raises(Refused, "told", call)
            self.raises(Refused, "told", studio.worth_at, at(*plate.outer[0]))

    def test_no_plate(self):
        for value in ANY:
            if value not in (SQUARE, WINDOW):
                self.raises(InvalidPlate, -2, Studio, value)
        self.assertEqual(Studio(plate=WINDOW).plate, WINDOW)

    def test_methods_of_its_own(self):
        names = "knots telling mesh worths field energy flows worth_at calls depth is_calm span do twin".split()
        for name in names:
            self.assertIn(name, vars(Studio))
        self.assertEqual(list(inspect.signature(Studio).parameters), ["plate"])
        self.assertEqual(list(inspect.signature(Studio.do).parameters), ["self", "call"])
        self.assertEqual(list(inspect.signature(Studio.worth_at).parameters), ["self", "point"])
        studio = Studio(SQUARE)
        self.same(studio.do(call=("tell", 0, (1, 2))), "done")
        self.same(studio.worth_at(point=at(1, 1)), (1, 2))
        with self.assertRaises(TypeError):
            iter(studio)
        with self.assertRaises(TypeError):
            len(studio)


class Calls(Checks):
    def do(self, studio, rows):
        for word, call in rows:
            before = all_told(studio)
            self.same(studio.do(call), word)
            if word != "done":
                self.assertEqual(all_told(studio), before)

    def test_tell(self):
        studio = Studio(SQUARE)
        self.do(studio, [("nothing", ("tell", 0, None)), ("done", ("tell", 0, (1, 2))), ("nothing", ("tell", 0, (1, 2))),
                         ("done", ("tell", 0, (2, 1))), ("done", ("tell", 3, (0, 1))), ("corner", ("tell", 4, (0, 1))),
                         ("corner", ("tell", -1, None)), ("corner", ("tell", True, (1, 1))), ("corner", ("tell", None, (1, 1))),
                         ("corner", ("tell", [0], None)), ("corner", ("tell", SQUARE, None)), ("call", ("tell", 9, (2, 2)))])
        self.same(studio.telling(), (((0, (2, 1)), (3, (0, 1))), (), ()))
        self.do(studio, [("done", ("side", 3, True)), ("told", ("tell", 0, None)), ("told", ("tell", 3, None)), ("nothing", ("tell", 1, None)),
                         ("done", ("tell", 0, (5, 1))), ("done", ("side", 3, False)), ("done", ("tell", 0, None))])
        self.same(studio.telling(), (((3, (0, 1)),), (), ()))

    def test_side(self):
        studio = Studio(SQUARE)
        self.do(studio, [("told", ("side", 0, True)), ("nothing", ("side", 0, False)), ("corner", ("side", 4, True)),
                         ("corner", ("side", None, False)), ("corner", ("side", False, False)), ("call", ("side", 0, 1)),
                         ("done", ("tell", 0, (0, 1))), ("told", ("side", 0, True)), ("told", ("side", 3, True)),
                         ("done", ("tell", 1, (4, 1))), ("done", ("put", at(1, 0))), ("done", ("knot", at(1, 0), (1, 1))),
                         ("knot", ("side", 0, True)), ("done", ("knot", at(1, 0), None)), ("done", ("side", 0, True)),
                         ("nothing", ("side", 0, True)), ("told", ("knot", at(1, 0), (1, 1))), ("told", ("knot", at(1, 0), None)),
                         ("told", ("side", 1, True))])
        self.same(studio.telling(), (((0, (0, 1)), (1, (4, 1))), (0,), ()))
        self.same(studio.worths(), ((0, (0, 1)), (1, (4, 1)), (4, (1, 1))))
        self.do(studio, [("done", ("take", at(1, 0))), ("done", ("side", 0, False)), ("nothing", ("side", 0, False))])

    def test_a_told_knot_comes_behind_ends_that_are_not_told(self):
        studio = Studio(SQUARE)
        self.do(studio, [("done", ("put", at(1, 0))), ("done", ("knot", at(1, 0), (1, 1))), ("told", ("side", 0, True)),
                         ("done", ("tell", 0, (0, 1))), ("done", ("tell", 1, (0, 1))), ("knot", ("side", 0, True))])

    def test_knots(self):
        studio = Studio(WINDOW)
        self.do(studio, [("outside", ("put", at(7, 1))), ("outside", ("put", at(3, 3))), ("corner", ("put", at(0, 0))), ("corner", ("put", at(2, 4))),
                         ("done", ("put", at(5, 1))), ("knot", ("put", at(5, 1))), ("done", ("put", at(1, 1))), ("knot", ("take", at(5, 5))),
                         ("knot", ("take", at(0, 0))), ("knot", ("knot", at(5, 5), None)), ("knot", ("knot", at(9, 9), (1, 1))),
                         ("nothing", ("knot", at(1, 1), None)), ("done", ("knot", at(1, 1), (1, 1))), ("nothing", ("knot", at(1, 1), (1, 1))),
                         ("told", ("take", at(1, 1))), ("done", ("put", at(2, 3)))])
        self.same(studio.knots(), (at(1, 1), at(2, 3), at(5, 1)))
        self.same(studio.mesh().points[8:], (at(5, 1), at(1, 1), at(2, 3)))
        self.do(studio, [("done", ("take", at(5, 1))), ("done", ("put", at(5, 1)))])
        self.same(studio.mesh().points[8:], (at(1, 1), at(2, 3), at(5, 1)))
        self.do(studio, [("done", ("undo",)), ("done", ("undo",))])
        self.same(studio.mesh().points[8:], (at(5, 1), at(1, 1), at(2, 3)))
        self.do(studio, [("done", ("knot", at(1, 1), None)), ("done", ("take", at(1, 1)))])
        self.same(studio.telling(), NOTHING)

    def test_undo_and_redo(self):
        studio = Studio(SQUARE)
        one, two, three = ("tell", 0, (1, 1)), ("put", at(1, 1)), ("tell", 1, (2, 1))
        self.do(studio, [("nothing", ("undo",)), ("nothing", ("redo",)), ("done", one), ("done", two)])
        self.same((studio.calls(), studio.depth()), ((one, two), (2, 0)))
        self.do(studio, [("done", ("undo",))])
        self.same((studio.calls(), studio.depth(), studio.knots()), ((one,), (1, 1), ()))
        # What is refused leaves what may be redone.
        self.do(studio, [("nothing", one), ("corner", ("put", at(0, 0))), ("call", None), ("done", ("redo",)), ("nothing", ("redo",))])
        self.same((studio.calls(), studio.depth()), ((one, two), (2, 0)))
        self.do(studio, [("done", ("undo",)), ("done", ("undo",)), ("nothing", ("undo",))])
        self.same((studio.calls(), studio.depth(), studio.telling()), ((), (0, 2), NOTHING))
        self.do(studio, [("done", ("redo",)), ("done", three), ("nothing", ("redo",))])
        self.same((studio.calls(), studio.depth()), ((one, three), (2, 0)))
        self.same(studio.telling(), (((0, (1, 1)), (1, (2, 1))), (), ()))

    def test_calls_are_kept_as_they_are(self):
        studio = Studio(SQUARE)
        rows = [("tell", 2, (-1, 2)), ("tell", 3, (7, 1)), ("side", 2, True), ("put", (frac(1, 2), frac(1, 3))), ("side", 2, False)]
        for call in rows:
            self.same(studio.do(call), "done")
        self.same(studio.calls(), tuple(rows))

    def test_any_value(self):
        studio = Studio(SQUARE)
        self.do(studio, [("done", ("tell", 0, (1, 1))), ("done", ("put", at(1, 1)))])
        before = all_told(studio)
        for value in ANY + WRONG:
            self.same(studio.do(value), "call")
        rights = (("tell", 1, (1, 2)), ("side", 0, True), ("put", at(1, 2)), ("take", at(1, 1)), ("knot", at(1, 1), (1, 2)), ("undo",))
        for right in rights:
            for value in spoiled(right):
                if not is_right_call(value):
                    self.same(studio.do(value), "call")
        for value in ANY:
            if type(value) is not int or not 0 <= value < 4:
                self.same(studio.do(("tell", value, (1, 1))), "corner")
                self.same(studio.do(("side", value, False)), "corner")
            if not is_right_point(value):
                for call in (("put", value), ("take", value), ("knot", value, None)):
                    self.same(studio.do(call), "call")
            if value is not None and not is_right_fraction(value):
                self.same(studio.do(("tell", 0, value)), "call")
                self.same(studio.do(("knot", at(1, 1), value)), "call")
            if not isinstance(value, bool):
                self.same(studio.do(("side", 0, value)), "call")
        self.assertEqual(all_told(studio), before)


class Models(Checks):
    def check(self, studio, model):
        plate = studio.plate
        knots = model.now[3]
        self.same(studio.telling(), model.telling())
        self.assertIsNone(need_telling(plate, studio.telling()))
        self.same(studio.knots(), tuple(sorted(knots)))
        self.same(studio.calls(), tuple(call for call, _ in model.past))
        self.same(studio.depth(), (len(model.past), len(model.ahead)))
        mesh = mesh_with(plate, knots)
        self.assertEqual(studio.mesh(), mesh)
        worths = worths_of(plate, model.telling(), mesh)
        self.same(studio.worths(), worths)
        self.assertIs(studio.is_calm(), is_calm(mesh, worths))
        self.assertTrue(clear_circles(mesh) and failing(mesh) == ())
        if not worths:
            self.raises(Refused, "told", studio.energy)
            return
        field = least_field(mesh, worths)
        self.same(studio.field(), field)
        self.assertTrue(check_field(mesh, worths, studio.field()))
        self.same(studio.energy(), energy(mesh, field))
        self.same(studio.flows(), flows(mesh, field))
        some = sorted(worth_of(worth) for _, worth in worths)
        self.same(studio.span(), (frac(some[0]), frac(some[-1])))
        if studio.is_calm():
            self.assertTrue(all(some[0] <= worth_of(one) <= some[-1] for one in field))
        point = mesh.points[-1]
        self.same(studio.worth_at(point), field[-1])
        middle = at(*[sum(worth_of(mesh.points[k][i]) for k in mesh.triangles[0]) / 3 for i in (0, 1)])
        self.same(studio.worth_at(middle), field_at(mesh, field, middle))

    def test_many_calls(self):
        words = {}
        for seed in range(48):
            random = Random(seed)
            plate = SOME[seed % len(SOME)]
            studio, model = Studio(plate), Model(plate)
            for step in range(70):
                call = random_call(random, plate, model.now[3])
                before = all_told(studio) if step % 5 == 0 else None
                word = model.do(call)
                words[(call[0] if call else None, word)] = True
                self.same(studio.do(call), word)
                if word != "done" and before is not None:
                    self.assertEqual(all_told(studio), before)
                if step % 4 == 0:
                    self.check(studio, model)
            self.check(studio, model)
        expected = [("tell", "done"), ("tell", "told"), ("tell", "corner"), ("tell", "nothing"), ("side", "done"), ("side", "told"),
                    ("side", "corner"), ("side", "nothing"), ("put", "done"), ("put", "outside"), ("put", "corner"), ("put", "knot"),
                    ("take", "done"), ("take", "knot"), ("take", "told"), ("knot", "done"), ("knot", "knot"), ("knot", "told"),
                    ("undo", "done"), ("undo", "nothing"), ("redo", "done"), ("redo", "nothing"), ("tell", "call"), ("side", "call")]
        self.assertEqual([pair for pair in expected if pair not in words], [])

    def test_twins(self):
        for seed in range(40, 50):
            random = Random(seed)
            plate = SOME[seed % len(SOME)]
            studio, model = Studio(plate), Model(plate)
            for _ in range(20):
                call = random_call(random, plate, model.now[3])
                self.same(studio.do(call), model.do(call))
            twin = studio.twin()
            self.assertIsInstance(twin, Studio)
            self.assertIsNot(twin, studio)
            self.assertEqual(all_told(twin), all_told(studio))
            before = all_told(studio)
            for _ in range(15):
                twin.do(random_call(random, plate, model.now[3]))
            self.assertEqual(all_told(studio), before)
            kept = all_told(twin)
            for _ in range(15):
                call = random_call(random, plate, model.now[3])
                self.same(studio.do(call), model.do(call))
            self.assertEqual(all_told(twin), kept)
            self.check(studio, model)

    def test_twins_undo_and_redo_alone(self):
        studio = Studio(RING)
        for call in (("tell", 0, (1, 1)), ("put", at(1, 2)), ("tell", 1, (2, 1)), ("undo",)):
            self.same(studio.do(call), "done")
        twin = studio.twin()
        self.same(twin.depth(), (2, 1))
        self.same((twin.do(("redo",)), twin.depth(), studio.depth()), ("done", (3, 0), (2, 1)))
        self.same((studio.do(("undo",)), studio.knots(), twin.knots()), ("done", (), (at(1, 2),)))
        self.same((studio.do(("tell", 2, (1, 1))), studio.depth(), twin.depth()), ("done", (2, 0), (3, 0)))


class Ways(Checks):
    def fresh(self, studio, seed):
        """A studio that comes to the same telling and knots by another way."""
        random = Random(seed)
        other = Studio(studio.plate)
        told, on, knots = studio.telling()
        for point in random.sample(studio.knots(), len(studio.knots())):
            other.do(("put", point))
        rows = [("knot", point, worth) for point, worth in knots] + [("tell", k, worth) for k, worth in told]
        for call in random.sample(rows, len(rows)):
            self.same(other.do(call), "done")
        for k in on:
            self.same(other.do(("side", k, True)), "done")
        return other

    def test_whatever_way_led_there(self):
        for seed in range(60, 76):
            random = Random(seed)
            plate = SOME[seed % len(SOME)]
            studio = Studio(plate)
            knots = []
            for _ in range(40):
                call = random_call(random, plate, knots)
                studio.do(call)
                knots = list(studio.knots())
            other = self.fresh(studio, seed)
            self.same((other.telling(), other.knots()), (studio.telling(), studio.knots()))
            self.assertEqual(settled(by_points(other.mesh())), settled(by_points(studio.mesh())))
            if studio.worths():
                self.same(other.energy(), studio.energy())
                for point in studio.mesh().points:
                    self.same(other.worth_at(point), studio.worth_at(point))
                both = [dict(zip(one.mesh().points, one.flows())) for one in (studio, other)]
                self.assertEqual(both[0], both[1])

    def test_knots_and_energy(self):
        for seed in range(80, 92):
            random = Random(seed)
            plate = SOME[seed % len(SOME)]
            studio = Studio(plate)
            studio.do(("tell", 0, (0, 1)))
            studio.do(("tell", 2, (3, 1)))
            for _ in range(14):
                knots = list(studio.knots())
                call = random.choice([("put", random_place(random, plate)), ("take", random.choice(knots) if knots else at(0, 0)),
                                      ("tell", random.randrange(len(corners(plate))), random_frac(random)),
                                      ("knot", random.choice(knots) if knots else at(0, 0), random_frac(random))])
                before, told = studio.energy(), dict(studio.worths())
                if studio.do(call) == "done":
                    behind = studio.energy()
                    if call[0] == "put":
                        self.assertLessEqual(worth_of(behind), worth_of(before))
                    elif call[0] == "take" or len(studio.worths()) > len(told):
                        self.assertGreaterEqual(worth_of(behind), worth_of(before))

    def test_as_much_in_as_out(self):
        studio = Studio(WINDOW)
        for call in (("tell", 0, (0, 1)), ("tell", 3, (0, 1)), ("side", 3, True), ("tell", 5, (9, 2)), ("put", at(5, 3)), ("put", at(3, 1))):
            self.same(studio.do(call), "done")
        told = dict(studio.worths())
        self.assertEqual([much for k, much in enumerate(studio.flows()) if k not in told], [(0, 1)] * (len(studio.mesh().points) - 3))
        self.assertEqual(sum(worth_of(much) for much in studio.flows()), 0)

    def test_names(self):
        self.assertIs(module.Studio, Studio)
        self.assertEqual(list(inspect.signature(mesh_with).parameters), ["plate", "knots"])
