"""[84] Calls as lines."""

import re
from random import Random

from leastfield import commands
from leastfield.errors import InvalidCommand
from tests.checks import Checks
from tests.samples import ANY, SQUARE, at, frac
from tests.told import SOME
from tests.test_studio import is_right_call, random_call

FRACTION = r"(?:0|-?[1-9][0-9]*)(?:/[1-9][0-9]*)?"
NUMBER = "(?:0|[1-9][0-9]*)"
FORMS = [f"(tell) ({NUMBER}) ({FRACTION}|_)", f"(side) ({NUMBER}) (on|off)", f"(put) ({FRACTION},{FRACTION})", f"(take) ({FRACTION},{FRACTION})",
         f"(knot) ({FRACTION},{FRACTION}) ({FRACTION}|_)", "(undo)", "(redo)"]


def fraction_in(text):
    top, _, bottom = text.partition("/")
    found = frac(int(top), int(bottom or 1))
    return found if text == (f"{found[0]}/{found[1]}" if found[1] != 1 else str(found[0])) else None


def thing_in(text):
    if text in ("_", "on", "off"):
        return {"_": None, "on": True, "off": False}[text], True
    if "," in text:
        point = tuple(fraction_in(part) for part in text.split(","))
        return point, None not in point
    found = fraction_in(text)
    return found, found is not None


def call_in(line):
    """The call with a line, None if there is none."""
    for form in FORMS:
        found = re.fullmatch(form, line, re.ASCII)
        if found:
            word, *texts = found.groups()
            things = [thing_in(text) for text in texts]
            if not all(right for _, right in things):
                return None
            things = [thing for thing, _ in things]
            if word in ("tell", "side"):
                things[0] = int(texts[0])
            return (word, *things)
    return None


class Lines(Checks):
    def some_calls(self):
        random = Random(1)
        found = []
        while len(found) < 400:
            call = random_call(random, random.choice(SOME), [at(1, 1), (frac(1, 3), frac(-7, 2))])
            if is_right_call(call) and (call[0] not in ("tell", "side") or type(call[1]) is int and call[1] >= 0):
                found.append(call)
        return found

    def test_there_and_back(self):
        lines = {}
        for call in self.some_calls():
            line = commands.call_text(call)
            self.assertIsInstance(line, str)
            self.same(call_in(line), call)
            self.same(commands.read_call(line), call)
            self.assertEqual(lines.setdefault(line, call), call)
        self.assertGreater(len(lines), 150)

    def test_by_hand(self):
        rows = [(("tell", 0, (0, 1)), "tell 0 0"), (("tell", 12, (-7, 2)), "tell 12 -7/2"), (("tell", 3, None), "tell 3 _"),
                (("side", 1, True), "side 1 on"), (("side", 0, False), "side 0 off"), (("put", at(0, -3)), "put 0,-3"),
                (("take", (frac(1, 2), frac(-3, 4))), "take 1/2,-3/4"), (("knot", at(1, 1), (1, 1)), "knot 1,1 1"),
                (("knot", (frac(3, 2), frac(1)), None), "knot 3/2,1 _"), (("undo",), "undo"), (("redo",), "redo"),
                (("tell", 10 ** 50, (10 ** 59, 7)), "tell 1" + "0" * 50 + " 1" + "0" * 59 + "/7")]
        for call, line in rows:
            self.same(commands.call_text(call), line)
            self.same(commands.read_call(line), call)

    def test_wrong_lines(self):
        lines = ["", " ", "tell", "tell ", "tell 0", "tell 0 ", "tell 0 1 ", " tell 0 1", "tell  0 1", "tell 0  1", "tell 0 1 2", "tell 00 1",
                 "tell -1 1", "tell +1 1", "tell 0 01", "tell 0 2/4", "tell 0 1/1", "tell 0 -0", "tell 0 +1", "tell 0 1/0", "tell 0 1/-2",
                 "tell 0 on", "tell _ 1", "tell 0 none", "tell 0 None", "tell 0 1.5", "tell 0 1\n", "tell\t0 1", "tell 0\u00a01", "tell \u0663 1",
                 "tell 0 \u0663", "tell 1/2 1", "tell 0 1,1", "Tell 0 1", "TELL 0 1", "side 0", "side 0 On", "side 0 True", "side 0 1", "side 0 _",
                 "side on 0", "side 0 on on", "side -0 on", "put", "put 1", "put 1,", "put ,1", "put 1,1,1", "put 1 1", "put (1,1)", "put 1, 1",
                 "put 1,1 _", "put 2/2,1", "put _", "put _,1", "take 1;1", "take 1,01", "knot 1,1", "knot 1,1 on", "knot _ 1", "knot 1 1", "knot 1,1 _ _",
                 "undo ", " undo", "undo 1", "undo\n", "redo _", "Undo", "calls", "energy", "at 1,1", "done", "undo redo", "undo\nundo", "_", "on"]
        for line in lines:
            self.assertIsNone(call_in(line), line)
            self.wrong(line)

    def wrong(self, value):
        with self.assertRaises(InvalidCommand) as caught:
            commands.read_call(value)
        self.assertIs(caught.exception.__class__, InvalidCommand)

    def test_changed_lines(self):
        random = Random(2)
        seen = {True: 0, False: 0}
        for call in self.some_calls() * 2:
            line = commands.call_text(call)
            k = random.randrange(len(line) + 1)
            changed = line[:k] + random.choice(("", " ", "0", "1", "-", "/", ",", "_", "on", "x", "\n")) + line[k + random.randint(0, 1):]
            expected = call_in(changed)
            seen[expected is None] += 1
            if expected is None:
                self.wrong(changed)
            else:
                self.same(commands.read_call(changed), expected)
                self.same(commands.call_text(expected), changed)
        self.assertGreater(min(seen.values()), 50)

    def test_any_value(self):
        for value in ANY:
            self.wrong(value)
        for value in (["undo"], ("undo",), b"undo", SQUARE, {"undo": 1}):
            self.wrong(value)
