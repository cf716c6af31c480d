"""Tellings: which worths are told at corners, on sides and at knots of a plate."""

from leastfield.between import worth_between
from leastfield.errors import InvalidWorths, Refused
from leastfield.fractions import is_fraction, plus, times
from leastfield.inside import where_in
from leastfield.kinds import are_numbers, is_tuple_of
from leastfield.pairs import firsts_of, wrong_pair
from leastfield.plates import corners_of, sides_of
from leastfield.points import is_point, point_at


def _are_told_sides(plate, corners, value):
    """Whether a value is an ascending tuple of the first corners of sides with two told ends."""
    if not are_numbers(value):
        return False
    sides = sides_of(plate)
    told = firsts_of(corners)
    return all([side < len(sides) and sides[side][0] in told and sides[side][1] in told for side in value])


def _is_free_place(plate, sides, point):
    """Whether a point is of a plate, but no corner and on no told side."""
    place = where_in(plate, point)
    return place[0] == "inside" or (place[0] == "side" and place[1] not in sides)


def _are_told_knots(plate, sides, value):
    if not isinstance(value, tuple):
        return False
    for at, thing in enumerate(value):
        if not (is_tuple_of(thing, 2) and is_point(thing[0]) and is_fraction(thing[1])):
            return False
        if (at > 0 and thing[0] <= value[at - 1][0]) or not _is_free_place(plate, sides, thing[0]):
            return False
    return True


def need_telling(plate, value):
    if not is_tuple_of(value, 3):
        raise InvalidWorths(-1)
    corners, sides, knots = value
    if not isinstance(corners, tuple) or wrong_pair(corners, len(corners_of(plate))) is not None:
        raise InvalidWorths(0)
    if not _are_told_sides(plate, corners, sides):
        raise InvalidWorths(1)
    if not _are_told_knots(plate, sides, knots):
        raise InvalidWorths(2)


def _worth_on_side(plate, corners, side, point):
    """The worth that lies as far between those of the ends of a told side as a point does."""
    one, other = sides_of(plate)[side]
    a, b = [point_at(x, y) for x, y in (corners_of(plate)[one], corners_of(plate)[other])]
    table = dict(corners)
    return worth_between(a, b, table[one], table[other], point)


def told_worth(plate, telling, point):
    """The worth that is told of a point of a plate, None if none is."""
    corners, sides, knots = telling
    place = where_in(plate, point)
    if place[0] == "corner":
        return dict(corners).get(place[1])
    if place[0] == "side" and place[1] in sides:
        return _worth_on_side(plate, corners, place[1], point)
    return dict(knots).get(point)


def worths_of(plate, telling, mesh):
    """The told worths of a mesh that fills the plate."""
    worths = [(number, told_worth(plate, telling, point)) for number, point in enumerate(mesh.points)]
    return tuple([(number, worth) for number, worth in worths if worth is not None])


def times_telling(telling, often):
    """The telling with all worths multiplied by a fraction."""
    corners, sides, knots = telling
    return (tuple([(number, times(worth, often)) for number, worth in corners]), sides,
            tuple([(point, times(worth, often)) for point, worth in knots]))


def _sums(pairs, others):
    return tuple([(first, plus(worth, more)) for (first, worth), (_, more) in zip(pairs, others)])


def sum_of_tellings(one, other):
    """The sums of the worths of two tellings of the same things."""
    if firsts_of(one[0]) != firsts_of(other[0]) or one[1] != other[1] or firsts_of(one[2]) != firsts_of(other[2]):
        raise Refused("told")
    return (_sums(one[0], other[0]), one[1], _sums(one[2], other[2]))


def is_told_by(plate, telling, other):
    """Whether another telling tells all that one does."""
    corners, sides, knots = telling
    return (all([pair in other[0] for pair in corners]) and all([side in other[1] for side in sides])
            and all([told_worth(plate, other, point) == worth for point, worth in knots]))
