"""The calls of a studio as lines of text."""

from leastfield.calls import KINDS
from leastfield.errors import InvalidCommand, InvalidText
from leastfield.figures import is_number_text
from leastfield.fractions import fraction_text, read_fraction


def _thing_text(kind, thing):
    if kind == "corner":
        return str(thing)
    if kind == "flag":
        return "on" if thing else "off"
    if kind == "point":
        return f"{fraction_text(thing[0])},{fraction_text(thing[1])}"
    return "_" if thing is None else fraction_text(thing)


def call_text(call):
    """The line of a call."""
    word, *things = call
    return " ".join([word] + [_thing_text(kind, thing) for kind, thing in zip(KINDS[word], things)])


def _read_flag(text):
    if text not in ("on", "off"):
        raise InvalidCommand()
    return text == "on"


def _read_corner(text):
    if not is_number_text(text):
        raise InvalidCommand()
    return int(text)


def _read_fraction(text):
    try:
        return read_fraction(text)
    except InvalidText:
        raise InvalidCommand() from None


def read_point(text):
    """The point of two texts of fractions with a comma between."""
    right, _, up = text.partition(",")
    return (_read_fraction(right), _read_fraction(up))


def _read_thing(kind, text):
    if kind == "corner":
        return _read_corner(text)
    if kind == "flag":
        return _read_flag(text)
    if kind == "point":
        return read_point(text)
    return None if text == "_" else _read_fraction(text)


def read_call(value):
    """The call with a line."""
    if not isinstance(value, str):
        raise InvalidCommand()
    word, *texts = value.split(" ")
    kinds = KINDS.get(word)
    if kinds is None or len(kinds) != len(texts):
        raise InvalidCommand()
    return (word,) + tuple([_read_thing(kind, text) for kind, text in zip(kinds, texts)])
