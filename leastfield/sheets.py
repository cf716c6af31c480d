"""Sheets: answers that can be looked over without finding them."""

from leastfield.circles import check_clear, check_torn, clear_paper, torn_paper
from leastfield.errors import InvalidSize, NoName, Refused
from leastfield.field import check_field, least_field
from leastfield.finer import check_finer, finer_rows
from leastfield.first import completed, first_mesh, is_parting, many_diagonals
from leastfield.marks import bracket_paper, check_bracket
from leastfield.meshes import fills
from leastfield.peeling import check_peeled, peeled
from leastfield.places import check_outside, check_place, outside_paper, place_paper
from leastfield.questions import is_kind, is_question
from leastfield.runs import check_whole_paper, whole_paper
from leastfield.streams import check_stream_worths, stream_worths

CONTRARIES = {"place": "outside", "outside": "place", "clear": "torn", "torn": "clear"}


def _is_full_parting(plate, value):
    return is_parting(plate, value) and len(value) == many_diagonals(plate)


def _is_right(word, question, value):
    """Whether a value is a right sheet for a right question."""
    match word:
        case "mesh":
            return fills(question, value)
        case "parting":
            return _is_full_parting(question, value)
        case "place":
            return check_place(*question, value)
        case "outside":
            return check_outside(*question, value)
        case "peeled":
            return check_peeled(question, value)
        case "clear":
            return check_clear(question, value)
        case "torn":
            return check_torn(question, value)
        case "field":
            return check_field(*question, value)
        case "rows":
            return check_finer(*question, value)
        case "streams":
            return check_stream_worths(*question, value)
        case "bracket":
            return check_bracket(*question, value)
        case _:
            return check_whole_paper(*question, value)


def sheet_holds(word, question, value):
    return is_question(word, question) and _is_right(word, question, value)


def _bracket_sheet(mesh, marks, low, high):
    """The least fields across and along, if they show the bracket; others show less."""
    paper = bracket_paper(mesh, marks)
    return paper if check_bracket(mesh, marks, low, high, paper) else None


def _sheet_of(word, question):
    """A right sheet for a right question; None, or Refused, if there is none."""
    match word:
        case "mesh":
            return first_mesh(question)
        case "parting":
            return completed(question, ())
        case "place":
            return place_paper(*question)
        case "outside":
            return outside_paper(*question)
        case "peeled":
            return peeled(question)
        case "clear":
            return clear_paper(question)
        case "torn":
            return torn_paper(question)
        case "field":
            return least_field(*question)
        case "rows":
            return finer_rows(*question)
        case "streams":
            return stream_worths(*question)
        case "bracket":
            return _bracket_sheet(*question)
        case _:
            return whole_paper(*question)


def _need_kind(word):
    if not is_kind(word):
        raise NoName(word)


def sheet_for(word, question):
    _need_kind(word)
    if not is_question(word, question):
        raise InvalidSize("question")
    try:
        return _sheet_of(word, question)
    except Refused:
        return None


def contrary(word):
    """The kind that has a right sheet just where one has none."""
    _need_kind(word)
    return CONTRARIES.get(word)
