"""What the calls of a studio change: a pair of the telling and the knots in the order in which they were put in."""

from leastfield.errors import Refused
from leastfield.inside import where_in
from leastfield.kinds import is_place
from leastfield.pairs import firsts_of, with_worth
from leastfield.plates import sides_of


def _need_corner(plate, corner):
    if not is_place(corner, len(sides_of(plate))):
        raise Refused("corner")


def _lies_on(plate, sides, point):
    """Whether a point lies on one of some sides."""
    place = where_in(plate, point)
    return place[0] == "side" and place[1] in sides


def _tell(plate, state, corner, worth):
    (corners, sides, told), knots = state
    _need_corner(plate, corner)
    if worth is None and any([corner in sides_of(plate)[side] for side in sides]):
        raise Refused("told")
    return ((with_worth(corners, corner, worth), sides, told), knots)


def _side(plate, state, corner, flag):
    (corners, sides, told), knots = state
    _need_corner(plate, corner)
    others = tuple([side for side in sides if side != corner])
    if not flag:
        return ((corners, others, told), knots)
    if any([end not in firsts_of(corners) for end in sides_of(plate)[corner]]):
        raise Refused("told")
    if any([_lies_on(plate, (corner,), point) for point in firsts_of(told)]):
        raise Refused("knot")
    return ((corners, tuple(sorted(others + (corner,))), told), knots)


def _put(plate, state, point):
    telling, knots = state
    place = where_in(plate, point)[0]
    if place in ("outside", "corner"):
        raise Refused(place)
    if point in knots:
        raise Refused("knot")
    return (telling, knots + (point,))


def _take(_, state, point):
    telling, knots = state
    if point not in knots:
        raise Refused("knot")
    if point in firsts_of(telling[2]):
        raise Refused("told")
    return (telling, tuple([knot for knot in knots if knot != point]))


def _knot(plate, state, point, worth):
    (corners, sides, told), knots = state
    if point not in knots:
        raise Refused("knot")
    if _lies_on(plate, sides, point):
        raise Refused("told")
    return ((corners, sides, with_worth(told, point, worth)), knots)


ACTIONS = {"tell": _tell, "side": _side, "put": _put, "take": _take, "knot": _knot}


def state_behind(plate, state, call):
    """The state behind a call other than undo and redo; Refused if it changes nothing."""
    word, *things = call
    action = ACTIONS[word]
    behind = action(plate, state, *things)
    if behind == state:
        raise Refused("nothing")
    return behind
