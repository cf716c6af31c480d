"""What the points of a mesh bear."""

from leastfield.fractions import ZERO, fraction, minus, plus, times, total_of
from leastfield.points import doubled_area


def lumps(mesh):
    """For each point a third of the areas of its triangles."""
    borne = [ZERO for _ in mesh.points]
    for triangle in mesh.triangles:
        a, b, c = [mesh.points[number] for number in triangle]
        share = times(fraction(1, 6), doubled_area(a, b, c))
        for number in triangle:
            borne[number] = plus(borne[number], share)
    return tuple(borne)


def warmth(mesh, field):
    """The sum of lumps times worths."""
    return total_of([times(lump, worth) for lump, worth in zip(lumps(mesh), field)])


def gap_square(mesh, field, other):
    """The sum of lumps times the squares of the differences of two fields."""
    gaps = [minus(one, more) for one, more in zip(field, other)]
    return total_of([times(lump, times(gap, gap)) for lump, gap in zip(lumps(mesh), gaps)])
