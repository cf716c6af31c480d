"""Desks: studios that are told lines of text."""

from leastfield.circles import clear_paper
from leastfield.commands import read_call, read_point
from leastfield.errors import InvalidCommand, Refused
from leastfield.inside import side_of
from leastfield.studio import Studio

QUESTIONS = ("calls", "depth", "energy", "field", "flows", "knots", "span", "telling", "worths", "calm", "mesh")


def _answer(studio, word):
    """What a studio tells when it is asked by a word."""
    match word:
        case "calls":
            return studio.calls()
        case "depth":
            return studio.depth()
        case "energy":
            return studio.energy()
        case "field":
            return studio.field()
        case "flows":
            return studio.flows()
        case "knots":
            return studio.knots()
        case "span":
            return studio.span()
        case "telling":
            return studio.telling()
        case "worths":
            return studio.worths()
        case "calm":
            return studio.is_calm()
        case _:
            return (studio.mesh().points, studio.mesh().triangles)


def _worth_at(studio, point):
    if side_of(studio.plate, point) < 0:
        raise Refused("outside")
    return studio.worth_at(point)


def _outcome(studio, line):
    """Does what a line tells; a pair of what came of it."""
    if not isinstance(line, str):
        raise InvalidCommand()
    if line in QUESTIONS:
        return ("told", _answer(studio, line))
    if line.startswith("at "):
        return ("told", _worth_at(studio, read_point(line.removeprefix("at "))))
    return ("did", studio.do(read_call(line)))


class Desk:
    """A studio that does what lines tell, and the lines that were taken."""

    def __init__(self, plate):
        self.plate = plate
        self.studio = Studio(plate)
        self._lines = []

    def say(self, line):
        """Does what a line tells, and returns the outcome; the line is kept unless it tells nothing."""
        try:
            outcome = _outcome(self.studio, line)
        except Refused as refused:
            outcome = ("refused", refused.word)
        self._lines.append(line)
        return outcome

    def said(self):
        """All lines that were taken, in order."""
        return tuple(self._lines)

    def shown(self):
        """The sheets of the studio as it is: triples of a word, a question and a value."""
        studio = self.studio
        mesh = studio.mesh()
        rows = [("mesh", studio.plate, mesh), ("clear", mesh, clear_paper(mesh))]
        worths = studio.worths()
        if worths:
            field = studio.field()
            rows.append(("field", (mesh, worths), field))
            rows.append(("whole", (studio.plate, studio.telling(), studio.knots()), (mesh, field)))
        return tuple(rows)


def run_lines(plate, lines):
    """The outcomes of lines that a new desk is told."""
    desk = Desk(plate)
    return tuple([desk.say(line) for line in lines])
