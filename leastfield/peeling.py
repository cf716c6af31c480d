"""Triangles taken off a mesh without holes, one by one."""

from leastfield.errors import InvalidSize
from leastfield.kinds import are_ints
from leastfield.meshes import need_no_holes
from leastfield.thirds import border_ways, thirds_of, ways_round


def _loose_in(triangles, left):
    """The ascending list of the loose ones of those triangles whose numbers are left."""
    if len(left) < 2:
        return []
    thirds = thirds_of([triangles[number] for number in left])
    border = border_ways(thirds)
    ends = [end for way in border for end in way]
    found = []
    for number in left:
        outer = [way for way in ways_round(triangles[number]) if way in border]
        if len(outer) == 2 or (len(outer) == 1 and thirds[outer[0]] not in ends):
            found.append(number)
    return found


def _left_behind(triangles, gone):
    """The numbers of the triangles that are left behind some that go, None unless each is loose when it goes."""
    left = list(range(len(triangles)))
    for number in gone:
        if number not in _loose_in(triangles, left):
            return None
        left.remove(number)
    return left


def _left_by(mesh, gone):
    """The same for any value."""
    if not isinstance(gone, tuple) or not are_ints(gone, len(gone)):
        return None
    return _left_behind(mesh.triangles, gone)


def loose(mesh, gone):
    """The numbers of the triangles that are loose when some have gone."""
    need_no_holes(mesh)
    left = _left_by(mesh, gone)
    if left is None:
        raise InvalidSize("gone")
    return tuple(_loose_in(mesh.triangles, left))


def peeled(mesh):
    """All triangles but one, each loose when it goes."""
    need_no_holes(mesh)
    left = list(range(len(mesh.triangles)))
    gone = []
    while len(left) > 1:
        gone.append(_loose_in(mesh.triangles, left)[0])
        left.remove(gone[-1])
    return tuple(gone)


def check_peeled(mesh, value):
    need_no_holes(mesh)
    left = _left_by(mesh, value)
    return left is not None and len(left) == 1
