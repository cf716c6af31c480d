"""The greatest worth that a field has in a box, and papers that show it."""

from itertools import combinations

from leastfield.boxes import corners_in, field_function, heights_of, is_in_box, worth_in
from leastfield.errors import InvalidSize, Refused
from leastfield.fractions import ZERO, compared, is_fraction, minus, negative, over, plus, times, total_of
from leastfield.kinds import is_tuple_of
from leastfield.places import field_at
from leastfield.points import is_point
from leastfield.slopes import wedge


def need_box(value):
    if not (is_tuple_of(value, 2) and is_point(value[0]) and is_point(value[1])):
        raise InvalidSize("box")
    low, high = value
    if compared(low[0], high[0]) > 0 or compared(low[1], high[1]) > 0:
        raise InvalidSize("box")


def _top_of(mesh, field, number, box):
    """The pair of a point of a triangle and of a box, and its worth, the greatest there; None if they are apart."""
    function = field_function(mesh, number, field)
    best = None
    for point in corners_in(mesh, number, box):
        worth = worth_in(function, point)
        if best is None or compared(worth, best[1]) > 0:
            best = (point, worth)
    return best


def _tops(mesh, field, box):
    """For each triangle its greatest worth in the box, with a point that has it."""
    return [_top_of(mesh, field, number, box) for number in range(len(mesh.triangles))]


def _greatest(tops):
    """The pair with the greatest worth; Refused if no triangle comes to the box."""
    best = None
    for top in tops:
        if top is not None and (best is None or compared(top[1], best[1]) > 0):
            best = top
    if best is None:
        raise Refused("outside")
    return best


def summit(mesh, field, box):
    """A point of the box with the greatest worth there, and this worth."""
    need_box(box)
    return _greatest(_tops(mesh, field, box))


def _with_parts(many, pairs):
    """The tuple of so many fractions, all of them 0 but those of some pairs (place, fraction)."""
    table = dict(pairs)
    return tuple([table.get(at, ZERO) for at in range(many)])


def _parts_of_two(heights, some, fall):
    """Parts, none below 0, of two of some heights that rise together as a function does; None if there are none."""
    for one, other in combinations(some, 2):
        area = wedge(heights[one], heights[other])
        if area != ZERO:
            first, second = over(wedge(fall, heights[other]), area), over(wedge(heights[one], fall), area)
            if first[0] >= 0 and second[0] >= 0:
                return _with_parts(len(heights), ((one, first), (other, second)))
    return None


def _below_zero(heights):
    """Parts, none below 0, of three heights that sum to a number below 0: no point has all heights from 0 on.

    If no point has, three of them are enough to tell.
    """
    for i, j, k in combinations(range(len(heights)), 3):
        parts = (wedge(heights[j], heights[k]), wedge(heights[k], heights[i]), wedge(heights[i], heights[j]))
        if max([part[0] for part in parts]) <= 0:
            parts = tuple([negative(part) for part in parts])
        if min([part[0] for part in parts]) >= 0:
            row = _with_parts(len(heights), tuple(zip((i, j, k), parts)))
            if _rest(heights, row, (ZERO, ZERO, ZERO))[2][0] > 0:
                return row
    return None


def _rest(heights, row, function):
    """A linear function less the sum of parts of heights."""
    return tuple([minus(function[at], total_of([times(part, height[at]) for part, height in zip(row, heights)]))
                  for at in (0, 1, 2)])


def _fall_from(mesh, field, number, worth):
    """A worth less the linear function that a field is on a triangle."""
    right, up, start = field_function(mesh, number, field)
    return (negative(right), negative(up), minus(worth, start))


def _row_at(heights, fall, top):
    """The parts of the heights at a triangle that comes to the box.

    At its point with the greatest worth only heights that are 0 hold the point.
    """
    some = [at for at, height in enumerate(heights) if worth_in(height, top[0]) == ZERO]
    return _parts_of_two(heights, some, fall)


def _row_beside(heights, fall):
    """The parts of the heights at a triangle that does not come to the box."""
    row = _parts_of_two(heights, [3, 4, 5, 6], fall)
    missing = _rest(heights, row, fall)[2]
    if missing[0] >= 0:
        return row
    more = _below_zero(heights)
    # So often as to make up for what is missing.
    often = over(missing, negative(_rest(heights, more, (ZERO, ZERO, ZERO))[2]))
    return tuple([plus(part, times(often, other)) for part, other in zip(row, more)])


def summit_paper(mesh, field, box):
    """A point of the box with the greatest worth, and for each triangle the parts of heights that show it."""
    need_box(box)
    tops = _tops(mesh, field, box)
    best = _greatest(tops)
    rows = []
    for number, top in enumerate(tops):
        heights = heights_of(mesh, number, box)
        fall = _fall_from(mesh, field, number, best[1])
        rows.append(_row_beside(heights, fall) if top is None else _row_at(heights, fall, top))
    return (best, tuple(rows))


def _has_worth(mesh, field, box, value):
    """Whether a value is a pair of a point in a box and its worth."""
    if not (is_tuple_of(value, 2) and is_point(value[0]) and is_fraction(value[1]) and is_in_box(box, value[0])):
        return False
    try:
        return field_at(mesh, field, value[0]) == value[1]
    except Refused:
        return False


def _shows(mesh, field, box, number, worth, row):
    """Whether a value is a row of parts that shows that a triangle has no greater worth in a box."""
    if not is_tuple_of(row, 7) or not all([is_fraction(part) and part[0] >= 0 for part in row]):
        return False
    right, up, start = _rest(heights_of(mesh, number, box), row, _fall_from(mesh, field, number, worth))
    return right == ZERO and up == ZERO and start[0] >= 0


def check_summit(mesh, field, box, value):
    need_box(box)
    if not is_tuple_of(value, 2) or not _has_worth(mesh, field, box, value[0]):
        return False
    if not is_tuple_of(value[1], len(mesh.triangles)):
        return False
    return all([_shows(mesh, field, box, number, value[0][1], row) for number, row in enumerate(value[1])])
