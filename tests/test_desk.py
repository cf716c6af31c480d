"""[85] and [86] Desks."""

import inspect
from random import Random

from leastfield import desk as module
from leastfield.circles import clear_paper
from leastfield.commands import call_text, read_call
from leastfield.desk import Desk
from leastfield.errors import InvalidCommand, InvalidPlate, Refused
from leastfield.fractions import fraction_text
from leastfield.sheets import sheet_holds
from leastfield.studio import Studio
from tests.checks import Checks
from tests.samples import ANY, SQUARE, STRAIGHT, TRIANGLE, WINDOW, at
from tests.test_calls import told
from tests.test_studio import all_told, is_right_call, random_call
from tests.told import SOME, corners, random_place, where

WORDS = "calls depth energy field flows knots span telling worths".split()
WRONG = ("", " ", "energy ", " energy", "Energy", "energy 1", "at", "at ", "at 1", "at 1,1 ", "at  1,1", "at 1,1,1", "at 1 1", "at 2/4,1",
         "at +1,1", "at 1, 1", "at _", "at 1/1,0", "At 1,1", "tell", "tell 0", "tell 0 1 1", "tell -1 1", "tell 00 1", "tell 0 2/4", "tell 0 None",
         "tell x 1", "side 0 True", "side 0", "put 1", "put 1,1 1", "put _", "take", "knot 1,1", "knot 1,1 on", "undo 1", "redo ", "calls 0",
         "plate", "studio", "twin", "said", "shown", "do undo", "mesh 0", "calm?", "is_calm", "worth_at 1,1", "undo\n", "tell 0 1\ntell 1 1",
         "energy\n", "at 1,1\n", "tell\t0 1")


def point_text(point):
    return ",".join(fraction_text(one) for one in point)


def random_line(random, plate, knots):
    """A line of any kind, right or wrong."""
    kind = random.randint(0, 9)
    if kind < 5:
        call = None
        while call is None or not is_right_call(call) or (call[0] in ("tell", "side") and (type(call[1]) is not int or call[1] < 0)):
            call = random_call(random, plate, knots)
        return call_text(call)
    if kind < 7:
        return random.choice(WORDS + ["calm", "mesh"])
    if kind < 9:
        return "at " + point_text(random.choice([random_place(random, plate), at(*random.choice(corners(plate)))]))
    return random.choice(WRONG + ANY)


def outcome_by_words(studio, line):
    """What [85] says of a line, of a studio that is at the same place; None for what is no line."""
    if not isinstance(line, str):
        return None
    try:
        if line in WORDS:
            return ("told", getattr(studio, line)())
        if line == "calm":
            return ("told", studio.is_calm())
        if line == "mesh":
            return ("told", (studio.mesh().points, studio.mesh().triangles))
        if line.startswith("at "):
            try:
                _, point = read_call("put " + line[3:])
            except InvalidCommand:
                return None
            if where(studio.plate, point) == ("outside",):
                return ("refused", "outside")
            return ("told", studio.worth_at(point))
        try:
            call = read_call(line)
        except InvalidCommand:
            return None
        return ("did", studio.do(call))
    except Refused as refused:
        return ("refused", refused.word)


class Beginning(Checks):
    def test_a_studio_of_the_plate(self):
        for plate in SOME:
            desk = Desk(plate)
            self.assertIs(desk.studio.__class__, Studio)
            self.assertIs(desk.studio.plate, plate)
            self.assertIs(desk.plate, plate)
            self.assertEqual(all_told(desk.studio), all_told(Studio(plate)))
            self.same(desk.said(), ())

    def test_no_plate(self):
        for value in ANY:
            if value not in (SQUARE, WINDOW):
                self.raises(InvalidPlate, -2, Desk, value)
                self.raises(InvalidPlate, -2, module.run_lines, value, ["energy"])
                self.raises(InvalidPlate, -2, module.run_lines, value, [None])

    def test_names(self):
        for name in ("say", "said", "shown"):
            self.assertIn(name, vars(Desk))
        self.assertEqual(list(inspect.signature(Desk).parameters), ["plate"])
        self.assertEqual(list(inspect.signature(Desk.say).parameters), ["self", "line"])
        self.assertEqual(list(inspect.signature(module.run_lines).parameters), ["plate", "lines"])
        desk = Desk(plate=SQUARE)
        self.same(desk.say(line="tell 0 1/2"), ("did", "done"))
        self.same(module.run_lines(plate=SQUARE, lines=["depth"]), (("told", (0, 0)),))
        for call in (iter, len):
            with self.assertRaises(TypeError):
                call(desk)


class Saying(Checks):
    def test_beside_a_studio(self):
        kinds = {}
        for seed in range(36):
            random = Random(seed)
            plate = SOME[seed % len(SOME)]
            desk, studio, kept = Desk(plate), Studio(plate), []
            outcomes = []
            for _ in range(60):
                line = random_line(random, plate, list(studio.knots()))
                if len(studio.knots()) == 8 and isinstance(line, str) and line.startswith("put"):
                    line = "undo"
                expected = outcome_by_words(studio, line)
                if expected is None:
                    before = all_told(desk.studio)
                    with self.assertRaises(InvalidCommand) as caught:
                        desk.say(line)
                    self.assertIs(caught.exception.__class__, InvalidCommand)
                    self.assertEqual(all_told(desk.studio), before)
                    kinds["no line"] = kinds.get("no line", 0) + 1
                else:
                    found = desk.say(line)
                    self.same(found, expected)
                    kept.append(line)
                    outcomes.append(found)
                    key = found[:1] if found[0] == "told" else found
                    kinds[key] = kinds.get(key, 0) + 1
                self.same(desk.said(), tuple(kept))
            self.assertEqual(all_told(desk.studio), all_told(studio))
            # A new desk that is told the same lines tells the same.
            other = Desk(plate)
            self.same([other.say(line) for line in desk.said()], outcomes)
            self.assertEqual(all_told(other.studio), all_told(desk.studio))
            self.same(other.said(), desk.said())
            self.assertEqual(told(other.shown()), told(desk.shown()))
            self.same(module.run_lines(plate, desk.said()), tuple(outcomes))
            self.same(module.run_lines(plate, list(desk.said())), tuple(outcomes))
        self.assertEqual(set(kinds), {"no line", ("told",), ("refused", "told"), ("refused", "outside"), ("did", "done"), ("did", "nothing"),
                                      ("did", "corner"), ("did", "told"), ("did", "knot"), ("did", "outside")})

    def test_any_value(self):
        desk = Desk(SQUARE)
        for value in ANY + WRONG:
            if value in ("tell 0 1\n",) or value != "energy":
                with self.assertRaises(InvalidCommand):
                    desk.say(value)
                with self.assertRaises(InvalidCommand):
                    module.run_lines(SQUARE, ["energy", value])
        self.same((desk.said(), desk.studio.depth()), ((), (0, 0)))

    def test_by_hand(self):
        desk = Desk(WINDOW)
        for line, expected in (
                ("energy", ("refused", "told")), ("field", ("refused", "told")), ("flows", ("refused", "told")), ("span", ("refused", "told")),
                ("worths", ("told", ())), ("telling", ("told", ((), (), ()))), ("knots", ("told", ())), ("calls", ("told", ())),
                ("depth", ("told", (0, 0))), ("at 1,1", ("refused", "told")), ("at 3,3", ("refused", "outside")), ("at 9,9", ("refused", "outside")),
                ("undo", ("did", "nothing")), ("tell 0 0", ("did", "done")), ("tell 0 0", ("did", "nothing")), ("tell 99 1", ("did", "corner")),
                ("put 3,3", ("did", "outside")), ("put 2,3", ("did", "done")), ("put 2,3", ("did", "knot")), ("knot 2,3 5/2", ("did", "done")),
                ("knots", ("told", (at(2, 3),))), ("depth", ("told", (3, 0))), ("span", ("told", ((0, 1), (5, 2)))), ("at 2,3", ("told", (5, 2))),
                ("at 3,3", ("refused", "outside")), ("side 0 on", ("did", "told")), ("side 0 off", ("did", "nothing")), ("take 2,3", ("did", "told")),
                ("knot 2,3 _", ("did", "done")), ("take 2,3", ("did", "done")), ("energy", ("told", (0, 1))), ("put 0,0", ("did", "corner")),
                ("calls", ("told", (("tell", 0, (0, 1)), ("put", at(2, 3)), ("knot", at(2, 3), (5, 2)), ("knot", at(2, 3), None), ("take", at(2, 3)))))):
            self.same(desk.say(line), expected)
        self.assertEqual(len(desk.said()), 33)
        self.same(desk.said()[:2] + desk.said()[-2:], ("energy", "field", "put 0,0", "calls"))
        calm = desk.say("calm")
        self.same(calm, ("told", desk.studio.is_calm()))
        self.same(desk.say("mesh"), ("told", (desk.studio.mesh().points, desk.studio.mesh().triangles)))

    def test_what_was_refused_is_said_too(self):
        desk = Desk(SQUARE)
        desk.say("energy")
        desk.say("undo")
        with self.assertRaises(InvalidCommand):
            desk.say("energy?")
        desk.say("at 9,9")
        self.same(desk.said(), ("energy", "undo", "at 9,9"))


class Shown(Checks):
    def test_each_holds(self):
        many = {}
        for seed in range(50, 74):
            random = Random(seed)
            plate = SOME[seed % len(SOME)]
            desk = Desk(plate)
            for _ in range(random.randint(0, 30)):
                line = random_line(random, plate, list(desk.studio.knots()))
                if outcome_by_words(desk.studio.twin(), line) is not None and not (isinstance(line, str) and line.startswith("put") and len(desk.studio.knots()) > 6):
                    desk.say(line)
            studio = desk.studio
            rows = desk.shown()
            expected = [("mesh", plate, studio.mesh()), ("clear", studio.mesh(), clear_paper(studio.mesh()))]
            if studio.worths():
                expected += [("field", (studio.mesh(), studio.worths()), studio.field()),
                             ("whole", (plate, studio.telling(), studio.knots()), (studio.mesh(), studio.field()))]
            self.assertEqual(told(rows), told(tuple(expected)))
            self.assertEqual(rows, tuple(expected))
            self.assertIsInstance(rows, tuple)
            for word, question, value in rows:
                self.assertIs(sheet_holds(word, question, value), True)
            many[len(rows)] = many.get(len(rows), 0) + 1
        self.assertEqual(set(many), {2, 4})

    def test_of_nothing(self):
        for plate in (SQUARE, STRAIGHT, TRIANGLE):
            self.same([row[0] for row in Desk(plate).shown()], ["mesh", "clear"])


class Twins(Checks):
    def test_desks_go_on_alone(self):
        one, other = Desk(SQUARE), Desk(SQUARE)
        one.say("tell 0 1")
        self.same((other.said(), other.studio.depth()), ((), (0, 0)))
        row = ["tell 0 1", "energy"]
        outcomes = module.run_lines(SQUARE, row)
        row.append("undo")
        self.same(outcomes, (("did", "done"), ("told", (0, 1))))
