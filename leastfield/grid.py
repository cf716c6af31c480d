"""Points as pairs of integers over one bottom: so signs and areas need no fractions on the way."""

from math import lcm


def on_grid(points):
    """The least common bottom of some points, and the list of the points times this bottom."""
    bottom = 1
    for (_, first), (_, second) in points:
        bottom = lcm(bottom, first, second)
    return bottom, [(x * (bottom // right), y * (bottom // up)) for (x, right), (y, up) in points]
