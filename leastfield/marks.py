"""Four marks on the border of a mesh, and brackets of what flows across."""

from leastfield.energy import energy
from leastfield.errors import InvalidWorths
from leastfield.field import is_told_field, least_energy, least_field
from leastfield.fractions import ONE, ZERO, compared, over, plus
from leastfield.kinds import is_int, is_tuple_of
from leastfield.meshes import border_rings, need_no_holes


def need_marks(mesh, value):
    need_no_holes(mesh)
    if not is_tuple_of(value, 4):
        raise InvalidWorths(-1)
    ring = border_rings(mesh)[0]
    ahead = -1
    for at, mark in enumerate(value):
        if not is_int(mark) or mark not in ring:
            raise InvalidWorths(at)
        place = (ring.index(mark) - ring.index(value[0])) % len(ring)
        if place <= ahead:
            raise InvalidWorths(at)
        ahead = place


def arcs_of(mesh, marks):
    """The border points from each mark to the next one, both counted."""
    need_marks(mesh, marks)
    ring = border_rings(mesh)[0]
    first = ring.index(marks[0])
    round_once = ring[first:] + ring[:first + 1]
    places = [round_once.index(mark) for mark in marks] + [len(ring)]
    return tuple([round_once[low:high + 1] for low, high in zip(places, places[1:])])


def _told_on(low, high):
    """The told worths 0 on one arc and 1 on another."""
    return tuple(sorted([(point, ZERO) for point in low] + [(point, ONE) for point in high]))


def across_worths(mesh, marks):
    arcs = arcs_of(mesh, marks)
    return _told_on(arcs[0], arcs[2])


def along_worths(mesh, marks):
    arcs = arcs_of(mesh, marks)
    return _told_on(arcs[1], arcs[3])


def bracket_paper(mesh, marks):
    """The least fields across and along."""
    return (least_field(mesh, across_worths(mesh, marks)), least_field(mesh, along_worths(mesh, marks)))


def _ends(across, along):
    """The bracket that two energies give: 1 over twice that along, and twice that across."""
    return (over(ONE, plus(along, along)), plus(across, across))


def bracket(mesh, marks):
    """What bounds the flow across, from below and from above."""
    return _ends(least_energy(mesh, across_worths(mesh, marks)), least_energy(mesh, along_worths(mesh, marks)))


def check_bracket(mesh, marks, low, high, value):
    if not is_tuple_of(value, 2):
        return False
    across, along = value
    if not is_told_field(mesh, across_worths(mesh, marks), across):
        return False
    if not is_told_field(mesh, along_worths(mesh, marks), along):
        return False
    least, greatest = _ends(energy(mesh, across), energy(mesh, along))
    return compared(least, low) >= 0 and compared(greatest, high) <= 0
