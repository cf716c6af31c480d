"""Runs of calls, papers of the least energy on a plate, and plates that are moved."""

from leastfield.energy import energy
from leastfield.errors import Refused
from leastfield.field import check_field, least_field
from leastfield.flips import failing
from leastfield.fractions import negative, plus, times, whole
from leastfield.kinds import is_tuple_of
from leastfield.meshes import fills
from leastfield.plates import Plate, corners_of
from leastfield.points import point_at
from leastfield.studio import Studio, mesh_with
from leastfield.tellings import worths_of


def run(plate, calls):
    """Each call with its word and the energy behind it, None if nothing is told."""
    studio = Studio(plate)
    rows = []
    much = None
    for call in calls:
        word = studio.do(call)
        if word == "done":
            much = studio.energy() if studio.worths() else None
        rows.append((call, word, much))
    return tuple(rows)


def energy_with(plate, telling, knots):
    mesh, field = whole_paper(plate, telling, knots)
    return energy(mesh, field)


def whole_paper(plate, telling, knots):
    """The mesh with the knots, and its least field."""
    mesh = mesh_with(plate, knots)
    worths = worths_of(plate, telling, mesh)
    if not worths:
        raise Refused("told")
    return (mesh, least_field(mesh, worths))


def check_whole_paper(plate, telling, knots, value):
    if not is_tuple_of(value, 2):
        return False
    mesh, field = value
    if not fills(plate, mesh) or failing(mesh):
        return False
    if sorted(mesh.points) != sorted([point_at(x, y) for x, y in corners_of(plate)] + list(knots)):
        return False
    worths = worths_of(plate, telling, mesh)
    return len(worths) > 0 and check_field(mesh, worths, field)


def pair_by(move, pair):
    """Where a pair of integers goes."""
    often, quarters, right, up = move
    x, y = pair
    for _ in range(quarters):
        x, y = -y, x
    return (often * x + right, often * y + up)


def point_by(move, point):
    often, quarters, right, up = move
    x, y = point
    for _ in range(quarters):
        x, y = negative(y), x
    return (plus(times(whole(often), x), whole(right)), plus(times(whole(often), y), whole(up)))


def _ring_by(move, ring):
    return tuple([pair_by(move, corner) for corner in ring])


def plate_by(move, plate):
    return Plate(_ring_by(move, plate.outer), tuple([_ring_by(move, hole) for hole in plate.holes]))


def telling_by(move, telling):
    """The telling of the moved plate: corners and sides keep their numbers."""
    corners, sides, knots = telling
    return (corners, sides, tuple(sorted([(point_by(move, point), worth) for point, worth in knots])))
