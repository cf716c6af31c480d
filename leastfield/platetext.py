"""Plates written as texts, a line for each ring."""

from leastfield.errors import FieldError, InvalidText
from leastfield.figures import is_whole_text
from leastfield.plates import Plate

# No coordinate of a corner takes more signs than -1000 does.
_LONGEST = 5


def _ring_text(word, ring):
    return " ".join([word] + [f"{right},{up}" for right, up in ring])


def plate_text(plate):
    return "\n".join([_ring_text("outer", plate.outer)] + [_ring_text("hole", hole) for hole in plate.holes])


def _is_corner_text(text):
    right, _, up = text.partition(",")
    return all([len(part) <= _LONGEST and is_whole_text(part) for part in (right, up)])


def _ring_in(word, line):
    """The tuple of the pairs in a line behind a word; empty for other lines."""
    first, *texts = line.split(" ")
    if first != word or not all([_is_corner_text(text) for text in texts]):
        return ()
    ring = []
    for text in texts:
        right, _, up = text.partition(",")
        ring.append((int(right), int(up)))
    return tuple(ring)


def read_plate(value):
    """The plate of a text: the lines up to each one are the text of a plate, too."""
    if not isinstance(value, str):
        raise InvalidText(-1)
    rings = []
    plate = None
    for at, line in enumerate(value.split("\n")):
        rings.append(_ring_in("hole" if rings else "outer", line))
        try:
            plate = Plate(rings[0], tuple(rings[1:]))
        except FieldError:
            raise InvalidText(at) from None
    return plate
