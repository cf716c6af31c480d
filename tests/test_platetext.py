"""[16] Texts of plates."""

import re
from random import Random

from leastfield import platetext
from leastfield.errors import FieldError, InvalidText
from leastfield.plates import Plate, begun
from tests.checks import Checks
from tests.samples import ANY, PLATES, SQUARE, THREE_HOLES, WINDOW

EVERY = list(PLATES.values()) + [THREE_HOLES, Plate(((-1000, -1000), (1000, -999), (0, 1000)), ())]
LINE = re.compile(r"(outer|hole)((?: (?:0|-?[1-9][0-9]{0,9}),(?:0|-?[1-9][0-9]{0,9}))+)\Z")


def rings_in(lines):
    rings = []
    for line in lines:
        found = LINE.match(line)
        if not found or found.group(1) != ("hole" if rings else "outer"):
            return None
        rings.append(tuple(tuple(int(one) for one in pair.split(",")) for pair in found.group(2).split()))
    return rings


def plate_in(lines):
    """The plate of which these are all lines, None if there is none."""
    rings = rings_in(lines)
    if rings is None:
        return None
    try:
        return Plate(rings[0], tuple(rings[1:]))
    except FieldError:
        return None


def wrong_line(text):
    """The number of the first line that is wrong, None for the text of a plate."""
    lines = text.split("\n")
    for k in range(len(lines)):
        if plate_in(lines[:k + 1]) is None:
            return k
    return None


class Texts(Checks):
    def test_texts(self):
        self.same(platetext.plate_text(SQUARE), "outer 0,0 4,0 4,4 0,4")
        self.same(platetext.plate_text(WINDOW), "outer 0,0 6,0 6,6 0,6\nhole 2,2 2,4 4,4 4,2")
        self.same(platetext.plate_text(EVERY[-1]), "outer -1000,-1000 1000,-999 0,1000")

    def test_there_and_back(self):
        texts = set()
        for plate in EVERY:
            for k in range(len(plate.outer)):
                other = Plate(begun(plate.outer, k), plate.holes[::-1])
                text = platetext.plate_text(other)
                self.assertEqual(text, "\n".join([" ".join([word] + ["%d,%d" % pair for pair in ring]) for word, ring in
                                                  zip(["outer"] + ["hole"] * 9, (other.outer,) + other.holes)]))
                self.assertEqual(platetext.read_plate(text), other)
                texts.add(text)
        self.assertEqual(len(texts), sum(len(plate.outer) for plate in EVERY))

    def test_wrong_lines_by_hand(self):
        outer, hole = "outer 0,0 6,0 6,6 0,6", "hole 2,2 2,4 4,4 4,2"
        rows = [(0, ""), (0, "\n"), (0, "outer"), (0, "outer "), (0, "outer 0,0 6,0"), (0, "Outer 0,0 6,0 6,6 0,6"),
                (0, hole), (0, outer + " "), (0, " " + outer), (0, outer.replace(" ", "  ", 1)), (0, outer.replace(" 6,6", " 6,6 ")),
                (0, outer.replace("6,6", "06,6")), (0, outer.replace("6,6", "+6,6")), (0, outer.replace("0,0", "-0,0")),
                (0, outer.replace("0,0", "0,00")), (0, outer.replace("6,6", "6;6")), (0, outer.replace("6,6", "6,6,6")),
                (0, outer.replace("6,6", "6")), (0, outer.replace("6,6", "6.0,6")), (0, outer.replace("6,6", "1001,6")),
                (0, outer.replace("6,6", "6,")), (0, outer.replace("6,6", ",6")), (0, outer.replace("6,6", "\u0666,6")),
                (0, "outer 0,0 0,6 6,6 6,0"), (0, "outer 0,0 6,6 6,0 0,6"), (0, outer + " 0,0"), (0, outer + "\r"),
                (0, outer.replace(" 6,6", "\t6,6")), (0, outer.replace("6,6", "_6,6")), (0, outer.replace("6,6", "9" * 5000 + ",6")),
                (0, outer.replace("6,6", "6,-" + "9" * 5000)), (0, hole + "\n" + outer),
                (1, outer + "\n"), (1, outer + "\n\n" + hole), (1, outer + "\n" + outer), (1, outer + "\nhole"),
                (1, outer + "\n" + hole.replace("hole", "outer")), (1, outer + "\nhole 2,2 4,2 4,4 2,4"),
                (1, outer + "\nhole 2,2 2,7 4,4"), (1, outer + "\nhole 0,0 2,4 4,4"), (1, outer + "\n" + hole + " "),
                (1, outer + "\nHole 2,2 2,4 4,4 4,2"), (1, outer + "\n" + hole.replace("2,2", "2,02") + "\nfirst"),
                (2, outer + "\n" + hole + "\n"), (2, outer + "\n" + hole + "\n" + hole), (2, outer + "\n" + hole + "\nhole 1,1 1,5 5,5 5,1"),
                (2, outer + "\n" + hole + "\n" + outer), (2, outer + "\n" + hole + "\nhole 3,3 3,1 1,1\n" + hole)]
        for told, text in rows:
            self.assertEqual(wrong_line(text), told, text)
            self.raises(InvalidText, told, platetext.read_plate, text)
        self.assertEqual(platetext.read_plate(outer + "\n" + hole), WINDOW)

    def test_changed_texts(self):
        random = Random(1)
        seen = {}
        for plate in EVERY:
            text = platetext.plate_text(plate)
            for _ in range(60):
                k = random.randrange(len(text) + 1)
                sign = random.choice(("", " ", "\n", "0", "1", "9", "-", ",", "x", "o"))
                changed = text[:k] + sign + text[k + random.randint(0, 1):]
                wrong = wrong_line(changed)
                seen[wrong] = seen.get(wrong, 0) + 1
                if wrong is None:
                    found = platetext.read_plate(changed)
                    self.assertEqual(platetext.plate_text(found), changed)
                    self.assertEqual(found, plate_in(changed.split("\n")))
                else:
                    self.raises(InvalidText, wrong, platetext.read_plate, changed)
        self.assertTrue({None, 0, 1, 2} <= set(seen), seen)

    def test_any_value(self):
        for value in ANY:
            self.raises(InvalidText, 0 if isinstance(value, str) else -1, platetext.read_plate, value)
        for value in ([platetext.plate_text(SQUARE)], (platetext.plate_text(SQUARE),), SQUARE, platetext.plate_text(SQUARE).encode()):
            self.raises(InvalidText, -1, platetext.read_plate, value)
