"""How fast fields come near to the least one."""

from leastfield.errors import InvalidSize
from leastfield.field import least_field
from leastfield.fractions import ONE, is_positive, over, plus, times, total_of
from leastfield.lumps import gap_square, lumps
from leastfield.pairs import firsts_of
from leastfield.resistance import conductance
from leastfield.warming import with_told


def resistances_to(mesh, told):
    """The free points, each with its resistance to the told ones."""
    return tuple([(number, over(ONE, conductance(mesh, (number,), told)))
                  for number in range(len(mesh.points)) if number not in told])


def slowness(mesh, told):
    """The sum of the lumps of free points times their resistances to the told ones."""
    borne = lumps(mesh)
    return total_of([times(borne[number], much) for number, much in resistances_to(mesh, told)])


def _shrinking(slow, time):
    """The square of the part of slowness in the sum of slowness and time."""
    part = over(slow, plus(slow, time))
    return times(part, part)


def shrinks(mesh, told, time):
    return _shrinking(slowness(mesh, told), time)


def _first_gap(mesh, worths, field):
    """The square of the gap between a field with the told worths and the least one."""
    return gap_square(mesh, with_told(field, worths), least_field(mesh, worths))


def gap_bound(mesh, worths, field, some):
    """What the square of the gap is at most, behind steps of some times."""
    slow = slowness(mesh, firsts_of(worths))
    bound = _first_gap(mesh, worths, field)
    for time in some:
        bound = times(bound, _shrinking(slow, time))
    return bound


def steps_enough(mesh, worths, field, time, small):
    """How many steps it takes at least until the bound is not above a small fraction."""
    if not is_positive(small):
        raise InvalidSize("small")
    gap = _first_gap(mesh, worths, field)
    top, bottom = shrinks(mesh, firsts_of(worths), time)
    # Products of whole numbers alone: common divisors of long powers take long to find.
    bound, limit = gap[0] * small[1], small[0] * gap[1]
    many = 0
    while bound > limit:
        bound, limit = bound * top, limit * bottom
        many += 1
    return many
