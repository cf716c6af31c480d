"""Meshes of the same points and border: their lifts, their angles, and the flips from one to another."""

from leastfield.errors import Refused
from leastfield.flips import cells, lifts_of, run_flips, settling
from leastfield.fractions import greatest_of
from leastfield.meshes import borders_of
from leastfield.places import field_at
from leastfield.thirds import corners_beside, edge_between, flip_in, thirds_of, ways_round
from leastfield.weights import cotangent


def alike(mesh, other):
    """Whether two meshes have the same points and the same border edges."""
    return mesh.points == other.points and borders_of(mesh) == borders_of(other)


def lift_at(mesh, point):
    return field_at(mesh, lifts_of(mesh), point)


def _cotangents(mesh, triangle):
    """The cotangents of the angles of a triangle."""
    spots = mesh.points
    corners = [(one, other, third) for (one, other), third in zip(ways_round(triangle), triangle[2:] + triangle[:2])]
    return [cotangent(spots[one], spots[other], spots[third]) for one, other, third in corners]


def sharpest(mesh):
    """The greatest cotangent: that of the least angle."""
    return greatest_of([much for triangle in mesh.triangles for much in _cotangents(mesh, triangle)])


def _flip_told(thirds, edge):
    """Flips an edge within the thirds; the pair of it and of the edge that comes."""
    left, right = corners_beside(thirds, edge)
    flip_in(thirds, edge)
    return (edge, edge_between(left, right))


def _edge_across(thirds, cell):
    """An edge within a cell that lies opposite to its least corner in a triangle, None if there is none."""
    for (one, other), third in thirds.items():
        # Behind a border edge is nothing, which is no corner of the cell.
        if third == cell[0] and one in cell and other in cell and thirds.get((other, one)) in cell:
            return edge_between(one, other)
    return None


def _steps_to_settled(mesh):
    """The flips that lead from a mesh to the settled one, each with the edge that comes by it.

    Behind all edges that fail, each flip within a cell brings one edge more to its least corner.
    """
    edges = settling(mesh)
    thirds = thirds_of(mesh.triangles)
    steps = [_flip_told(thirds, edge) for edge in edges]
    for cell in cells(run_flips(mesh, edges)):
        edge = _edge_across(thirds, cell)
        while edge is not None:
            steps.append(_flip_told(thirds, edge))
            edge = _edge_across(thirds, cell)
    return steps


def way_between(mesh, other):
    """Flips that lead from one mesh to another: to the settled mesh of both, and back the other one's way."""
    if not alike(mesh, other):
        raise Refused("alike")
    there, back = _steps_to_settled(mesh), _steps_to_settled(other)
    # What both do at last need not be done and taken back.
    while there and back and there[-1] == back[-1]:
        there.pop()
        back.pop()
    return tuple([edge for edge, _ in there] + [new for _, new in reversed(back)])
