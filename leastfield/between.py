"""Worths between two points, where a field is linear on the way from one to the other."""

from leastfield.fractions import minus, over, plus, times
from leastfield.points import dot, squared_distance


def worth_between(a, b, one, other, point):
    """The worth that lies as far between those at a and b as a point on the way between them does."""
    part = over(dot(a, b, point), squared_distance(a, b))
    return plus(one, times(part, minus(other, one)))
