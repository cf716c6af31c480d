"""Fractions in the order of their worths."""


def ascending(some):
    """The list of some fractions, ascending by worth."""
    longest = max([bottom.bit_length() for _, bottom in some], default=0)
    # Unlike fractions are more than one part of this scale apart: so whole parts compare as worths do.
    scale = 1 << (2 * longest)
    return sorted(some, key=lambda one: one[0] * scale // one[1])


def unlike(some):
    """The list of the unlike ones of some fractions, ascending by worth."""
    return ascending(list({one: True for one in some}))
