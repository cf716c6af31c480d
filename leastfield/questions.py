"""The questions to which there are sheets: of which things each kind is made, and what is right there."""

from leastfield.errors import FieldError
from leastfield.field import need_field, need_worths
from leastfield.finer import need_knots
from leastfield.fractions import is_fraction
from leastfield.inside import where_in
from leastfield.kinds import is_tuple_of
from leastfield.marks import need_marks
from leastfield.meshes import is_mesh, need_no_holes
from leastfield.plates import is_plate
from leastfield.points import is_point
from leastfield.tellings import need_telling

# A question of one thing is this thing itself.
KINDS = {
    "mesh": ("plate",), "parting": ("plate",), "place": ("mesh", "point"), "outside": ("mesh", "point"),
    "peeled": ("mesh without holes",), "clear": ("mesh",), "torn": ("mesh",), "field": ("mesh", "worths"),
    "rows": ("mesh", "worths", "knots"), "streams": ("mesh", "field"),
    "bracket": ("mesh without holes", "marks", "fraction", "fraction"), "whole": ("plate", "telling", "places"),
}


def is_kind(word):
    return isinstance(word, str) and word in KINDS


def _is_place(plate, value):
    """Whether a value is a point of a plate that is no corner."""
    return is_point(value) and where_in(plate, value)[0] in ("side", "inside")


def _are_places(plate, value):
    """Whether a value is a tuple of unlike points of a plate that are no corners."""
    if not isinstance(value, tuple) or not all([_is_place(plate, point) for point in value]):
        return False
    return len({point for point in value}) == len(value)


def _need(kind, first, value):
    """Raises an error unless a value that belongs to a plate or a mesh is right."""
    if kind == "mesh without holes":
        need_no_holes(value)
    elif kind == "worths":
        need_worths(first, value)
    elif kind == "field":
        need_field(first, value)
    elif kind == "knots":
        need_knots(value)
    elif kind == "marks":
        need_marks(first, value)
    elif kind == "telling":
        need_telling(first, value)


def _is_right(kind, first, value):
    """Whether a value is a right thing in a question whose first thing is a right plate or mesh."""
    if kind == "point":
        return is_point(value)
    if kind == "fraction":
        return is_fraction(value)
    if kind == "places":
        return _are_places(first, value)
    try:
        _need(kind, first, value)
    except FieldError:
        return False
    return True


def is_question(word, value):
    """Whether a word is a kind of sheets, and a value a right question of it."""
    if not is_kind(word):
        return False
    kinds = KINDS[word]
    if len(kinds) > 1 and not is_tuple_of(value, len(kinds)):
        return False
    things = value if len(kinds) > 1 else (value,)
    first = things[0]
    if not (is_plate(first) if kinds[0] == "plate" else is_mesh(first)):
        return False
    return all([_is_right(kind, first, thing) for kind, thing in zip(kinds, things)])
