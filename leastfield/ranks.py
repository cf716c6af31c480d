"""Fractions in the order of their worths."""

from math import lcm


def ascending(some):
    """The list of some fractions, ascending by worth."""
    common = 1
    for _, bottom in some:
        common = lcm(common, bottom)
    # Over one bottom tops compare as worths do.
    return sorted(some, key=lambda one: one[0] * (common // one[1]))


def unlike(some):
    """The list of the unlike ones of some fractions, ascending by worth."""
    return ascending(list({one: True for one in some}))
