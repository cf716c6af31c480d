"""The calls of a studio: their words, and what stands behind them."""

from leastfield.fractions import is_fraction
from leastfield.points import is_point

KINDS = {
    "tell": ("corner", "worth"), "side": ("corner", "flag"), "put": ("point",), "take": ("point",),
    "knot": ("point", "worth"), "undo": (), "redo": (),
}


def _is_right(kind, thing):
    """Whether a thing can stand in a call; for a corner anything can, until the plate is known."""
    if kind == "point":
        return is_point(thing)
    if kind == "worth":
        return thing is None or is_fraction(thing)
    return kind == "corner" or isinstance(thing, bool)


def is_call(value):
    """Whether a value is a call, right for some plate or not."""
    if not isinstance(value, tuple) or len(value) == 0 or not isinstance(value[0], str):
        return False
    kinds = KINDS.get(value[0])
    if kinds is None or len(value) != len(kinds) + 1:
        return False
    return all([_is_right(kind, thing) for kind, thing in zip(kinds, value[1:])])
