"""Knots put into settled meshes, and how the least energy falls by them."""

from leastfield.between import worth_between
from leastfield.energy import energy
from leastfield.errors import InvalidPoint, Refused
from leastfield.field import check_field, least_energy, least_field
from leastfield.flips import failing, settled
from leastfield.fractions import is_fraction, minus
from leastfield.kinds import is_tuple_of
from leastfield.meshes import borders_of, fills, plate_of
from leastfield.pairs import wrong_pair
from leastfield.places import place_of
from leastfield.points import is_point
from leastfield.putting import field_put, put_in


def _is_knot(value):
    return is_tuple_of(value, 2) and is_point(value[0]) and isinstance(value[1], bool)


def need_knots(value):
    if not isinstance(value, tuple):
        raise InvalidPoint(-1)
    for at, thing in enumerate(value):
        if not _is_knot(thing):
            raise InvalidPoint(at)


def _told_worth(mesh, worths, point):
    """The worth of a told knot: it lies within a border edge with two told ends."""
    place = place_of(mesh, point)
    if place[0] != "edge" or place[1] not in borders_of(mesh):
        raise Refused("told")
    table = dict(worths)
    low, high = place[1]
    if low not in table or high not in table:
        raise Refused("told")
    return worth_between(mesh.points[low], mesh.points[high], table[low], table[high], point)


def _with_knot(mesh, worths, knot):
    """The settled mesh and the told worths behind one knot more."""
    point, told = knot
    parted = put_in(mesh, point)
    if told:
        worths = worths + ((len(mesh.points), _told_worth(mesh, worths, point)),)
    return (settled(parted), worths)


def _stages(mesh, worths, knots):
    """The list of the pairs of a mesh and its told worths: the settled mesh, and those behind each knot."""
    need_knots(knots)
    mesh = settled(mesh)
    stages = [(mesh, worths)]
    for knot in knots:
        mesh, worths = _with_knot(mesh, worths, knot)
        stages.append((mesh, worths))
    return stages


def finer(mesh, worths, knots):
    """The mesh and the told worths behind all knots."""
    return _stages(mesh, worths, knots)[-1]


def fall(mesh, worths, knots):
    """How much less the least energy is behind the knots."""
    stages = _stages(mesh, worths, knots)
    first, last = stages[0], stages[-1]
    return minus(least_energy(*first), least_energy(*last))


def _row_of(mesh, worths):
    field = least_field(mesh, worths)
    return (mesh, worths, field, energy(mesh, field))


def finer_rows(mesh, worths, knots):
    """The rows of mesh, told worths, least field and its energy, behind each knot."""
    return tuple([_row_of(settled_mesh, told) for settled_mesh, told in _stages(mesh, worths, knots)])


def _is_row(plate, points, told, value):
    """Whether a value is a row for a clear mesh of some points, and some told worths."""
    if not is_tuple_of(value, 4):
        return False
    mesh, worths, field, much = value
    if not fills(plate, mesh) or mesh.points != points or failing(mesh):
        return False
    # The kinds are looked at, too, for Python takes True to be 1.
    if not isinstance(worths, tuple) or wrong_pair(worths, len(points)) is not None or worths != told:
        return False
    return check_field(mesh, worths, field) and is_fraction(much) and much == energy(mesh, field)


def check_finer(mesh, worths, knots, value):
    need_knots(knots)
    if not is_tuple_of(value, len(knots) + 1):
        return False
    try:
        stages = _stages(mesh, worths, knots)
    except Refused:
        return False
    plate = plate_of(mesh)
    return all([_is_row(plate, stage.points, told, row) for (stage, told), row in zip(stages, value)])


def fall_parts(mesh, worths, point):
    """What the old least field loses when the mesh is settled behind one knot, and what is lost besides."""
    before = settled(mesh)
    behind = settled(put_in(before, point))
    field = least_field(before, worths)
    kept = energy(behind, field_put(before, field, point))
    return (minus(energy(before, field), kept), minus(kept, least_energy(behind, worths)))
