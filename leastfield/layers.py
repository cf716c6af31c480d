"""What flows over levels, and how much of a plate lies above them."""

from leastfield.fractions import ONE, ZERO, compared, fraction, half, minus, over, plus, times, total_of, whole
from leastfield.levels import gates
from leastfield.points import doubled_area
from leastfield.ranks import ascending, unlike
from leastfield.thirds import edge_between
from leastfield.weights import weights_of


def line_flow(mesh, field, line):
    """What flows over some gates."""
    weights = {(low, high): weight for low, high, weight in weights_of(mesh)}
    return total_of([times(weights[edge_between(high, low)], minus(field[high], field[low])) for high, low in line])


def flow_over(mesh, field, level):
    return line_flow(mesh, field, gates(mesh, field, level))


def _steps(field):
    """The list of the pairs of neighbouring worths in a field."""
    worths = unlike(field)
    return list(zip(worths, worths[1:]))


def ladder(mesh, field):
    """Each worth with the next greater one, and what flows over that."""
    return tuple([(low, high, flow_over(mesh, field, high)) for low, high in _steps(field)])


def _part_above(worths, level):
    """Which part of a triangle with these worths at its corners is not below a level."""
    low, between, high = ascending(worths)
    if compared(level, low) <= 0:
        return ONE
    if compared(level, high) > 0:
        return ZERO
    if compared(level, between) <= 0:
        rise = minus(level, low)
        return minus(ONE, over(times(rise, rise), times(minus(between, low), minus(high, low))))
    rise = minus(high, level)
    return over(times(rise, rise), times(minus(high, between), minus(high, low)))


def _area_in(mesh, field, number, level):
    """The area of the part of a triangle on which worths are not below a level."""
    triangle = mesh.triangles[number]
    a, b, c = [mesh.points[corner] for corner in triangle]
    return times(_part_above([field[corner] for corner in triangle], level), half(doubled_area(a, b, c)))


def area_above(mesh, field, level):
    """The area of the part of the plate on which worths are not below a level."""
    return total_of([_area_in(mesh, field, number, level) for number in range(len(mesh.triangles))])


def _layer_in(mesh, field, number, low, high):
    """What one step of worths has of the sum of layers on a triangle."""
    gap = minus(high, low)
    levels = [plus(low, times(fraction(part, 4), gap)) for part in (1, 2, 3)]
    first, second, third = [_area_in(mesh, field, number, level) for level in levels]
    areas = minus(times(whole(2), plus(first, third)), second)
    return times(times(fraction(1, 3), gap), areas)


def layers_sum(mesh, field):
    """The sum, over all steps of worths, of a third of the gap times three areas, the middle one taken off."""
    steps = _steps(field)
    # Triangle by triangle the sums keep short: what is above levels has no bottom in common with others'.
    return total_of([total_of([_layer_in(mesh, field, number, low, high) for low, high in steps])
                     for number in range(len(mesh.triangles))])
