"""Tuples of pairs: of a number and its worth, or of a point and its worth."""

from leastfield.fractions import is_fraction
from leastfield.kinds import is_place, is_tuple_of


def wrong_pair(value, many):
    """The place of the first thing of a tuple that is no pair of a number below many and a fraction, or not in order.

    None if all are right: their numbers ascend.
    """
    least = 0
    for at, thing in enumerate(value):
        if not (is_tuple_of(thing, 2) and is_place(thing[0], many) and is_fraction(thing[1])):
            return at
        if thing[0] < least:
            return at
        least = thing[0] + 1
    return None


def firsts_of(pairs):
    """The tuple of the first things of some pairs."""
    return tuple([first for first, _ in pairs])


def with_worth(pairs, first, worth):
    """Ascending pairs in which one has another worth; None takes it out."""
    kept = [pair for pair in pairs if pair[0] != first]
    if worth is not None:
        kept.append((first, worth))
    return tuple(sorted(kept))
