"""The points and the triangles round a point of a mesh."""

from leastfield.errors import InvalidSize
from leastfield.kinds import is_place
from leastfield.meshes import borders_of
from leastfield.thirds import numbers_of, thirds_of


def inner_points(mesh):
    """The numbers of the points on no border edge."""
    ends = [end for edge in borders_of(mesh) for end in edge]
    return tuple([number for number in range(len(mesh.points)) if number not in ends])


def star_of(mesh, number):
    """The neighbours of a point as one turns left round it, at the border from side to side."""
    if not is_place(number, len(mesh.points)):
        raise InvalidSize("number")
    thirds = thirds_of(mesh.triangles)
    ahead = {other: third for (one, other), third in thirds.items() if one == number}
    # Along the border no triangle lies on the right: so nothing comes ahead of that neighbour.
    first = [other for other in ahead if (other, number) not in thirds]
    star = [first[0] if first else min(list(ahead))]
    while star[-1] in ahead and ahead[star[-1]] != star[0]:
        star.append(ahead[star[-1]])
    return tuple(star)


def triangles_round(mesh, number):
    """The triangles at a point in the same order."""
    star = star_of(mesh, number)
    numbers = numbers_of(mesh.triangles)
    return tuple([numbers[(number, other)] for other in star if (number, other) in numbers])
