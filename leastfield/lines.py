"""Lines of one worth, from gate to gate."""

from leastfield.levels import gate_point, gates, high_points
from leastfield.meshes import border_rings, edges_of
from leastfield.reach import reached
from leastfield.thirds import edge_between, thirds_of


def _leads(mesh, field, level):
    """The dict from each gate that leads to one to that one."""
    thirds = thirds_of(mesh.triangles)
    high = high_points(mesh, field, level)
    found = {}
    for gate in gates(mesh, field, level):
        third = thirds.get(gate)
        if third is not None:
            found[gate] = (third, gate[1]) if third in high else (gate[0], third)
    return found


def _line_from(leads, first):
    """The gates from one to the one that leads to none, or back to the first."""
    line = [first]
    while line[-1] in leads and leads[line[-1]] != first:
        line.append(leads[line[-1]])
    return tuple(line)


def open_lines(mesh, field, level):
    leads = _leads(mesh, field, level)
    led = list(leads.values())
    return tuple([_line_from(leads, gate) for gate in gates(mesh, field, level) if gate not in led])


def closed_lines(mesh, field, level):
    """The lines without an end, each from its least gate on."""
    leads = _leads(mesh, field, level)
    seen = {gate: True for line in open_lines(mesh, field, level) for gate in line}
    lines = []
    for gate in gates(mesh, field, level):
        if gate not in seen:
            lines.append(_line_from(leads, gate))
            seen.update({other: True for other in lines[-1]})
    return tuple(lines)


def line_points(mesh, field, level, line):
    return tuple([gate_point(mesh, field, level, gate) for gate in line])


def surrounded(mesh, line):
    """The points that no way of edges joins to the outer ring but over the gates of a closed line."""
    shut = [edge_between(high, low) for high, low in line]
    near = [[] for _ in mesh.points]
    for low, high in edges_of(mesh):
        if (low, high) not in shut:
            near[low].append(high)
            near[high].append(low)
    outside = reached(near, border_rings(mesh)[0])
    return tuple([number for number in range(len(mesh.points)) if number not in outside])
