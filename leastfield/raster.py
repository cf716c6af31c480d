"""Fields looked at on rows of spots, and pictures of them."""

from leastfield.errors import InvalidSize, Refused
from leastfield.fractions import compared, is_positive, plus, times, whole
from leastfield.kinds import is_int, is_tuple_of
from leastfield.places import field_at
from leastfield.points import need_point

_MOST = 40


def need_frame(value):
    if not is_tuple_of(value, 4):
        raise InvalidSize("frame")
    point, step, wide, high = value
    need_point(point)
    if not is_positive(step):
        raise InvalidSize("step")
    if not is_int(wide) or not 1 <= wide <= _MOST:
        raise InvalidSize("wide")
    if not is_int(high) or not 1 <= high <= _MOST:
        raise InvalidSize("high")


def spots(frame):
    """The rows of the spots of a frame, the highest one first."""
    need_frame(frame)
    (right, up), step, wide, high = frame
    across = [plus(right, times(whole(at), step)) for at in range(wide)]
    heights = [plus(up, times(whole(at), step)) for at in range(high)]
    return tuple([tuple([(x, y) for x in across]) for y in reversed(heights)])


def _worth_at(mesh, field, spot):
    try:
        return field_at(mesh, field, spot)
    except Refused:
        return None


def sampled(mesh, field, frame):
    """The rows of the worths of a field at the spots of a frame, None outside."""
    return tuple([tuple([_worth_at(mesh, field, spot) for spot in row]) for row in spots(frame)])


def _sign(worth, levels):
    """The sign of a picture for a worth: how many levels are not above it."""
    if worth is None:
        return " "
    return str(len([level for level in levels if compared(level, worth) <= 0]))


def picture(mesh, field, frame, levels):
    rows = sampled(mesh, field, frame)
    return "\n".join(["".join([_sign(worth, levels) for worth in row]) for row in rows])
