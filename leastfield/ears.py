"""Ears of walks round plates, and the mesh that comes of cutting them off."""

from leastfield.bridges import walk_of
from leastfield.meshes import mesh_of
from leastfield.plates import corners_of
from leastfield.points import point_at, whole_turn
from leastfield.rings import triangle_holds


def _around(walk, place):
    """The corners ahead of a place of a walk, at it and behind it."""
    return walk[place - 1], walk[place], walk[(place + 1) % len(walk)]


def _is_ear(corners, walk, place):
    three = _around(walk, place)
    a, b, c = [corners[number] for number in three]
    if whole_turn(a, b, c) <= 0:
        return False
    return not any([triangle_holds(a, b, c, corners[number]) for number in walk if number not in three])


def ears_of(plate, walk):
    """The places of a walk at which there is an ear."""
    corners = corners_of(plate)
    return tuple([place for place in range(len(walk)) if _is_ear(corners, walk, place)])


def ear_cut(walk, place):
    """The walk without a place."""
    return tuple(walk[:place]) + tuple(walk[place + 1:])


def mesh_by_ears(plate):
    """The mesh of the first ear of the walk round a plate, the first one of what is left, and so on."""
    walk = walk_of(plate)
    triangles = []
    while len(walk) > 3:
        place = ears_of(plate, walk)[0]
        triangles.append(_around(walk, place))
        walk = ear_cut(walk, place)
    triangles.append(walk)
    return mesh_of([point_at(x, y) for x, y in corners_of(plate)], triangles)
