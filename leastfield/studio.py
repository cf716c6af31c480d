"""Studios: plates on which worths are told and knots put in, call by call, and taken back."""

from leastfield.bounds import is_calm, span_of
from leastfield.calls import is_call
from leastfield.changes import state_behind
from leastfield.energy import energy
from leastfield.errors import Refused
from leastfield.field import flows, least_field
from leastfield.first import first_mesh
from leastfield.flips import settled
from leastfield.places import field_at
from leastfield.plates import need_plate
from leastfield.putting import put_in
from leastfield.tellings import worths_of


def _with_knot(mesh, knot):
    if knot in mesh.points:
        raise Refused("knot")
    return settled(put_in(mesh, knot))


def mesh_with(plate, knots):
    """The settled first mesh with some knots put in, settled behind each."""
    mesh = settled(first_mesh(plate))
    for knot in knots:
        mesh = _with_knot(mesh, knot)
    return mesh


class Studio:
    """A plate with a telling and knots.

    A stage is a state (telling, knots) with its mesh; there is one more of them than calls, undone ones counted.
    """

    def __init__(self, plate):
        need_plate(plate)
        self.plate = plate
        self._calls = []
        self._stages = [((((), (), ()), ()), mesh_with(plate, ()))]
        self._done = 0

    def _stage(self):
        return self._stages[self._done]

    def _state(self):
        return self._stage()[0]

    def knots(self):
        return tuple(sorted(self._state()[1]))

    def telling(self):
        return self._state()[0]

    def mesh(self):
        return self._stage()[1]

    def worths(self):
        return worths_of(self.plate, self.telling(), self.mesh())

    def _told(self):
        """The told worths, if there are some."""
        worths = self.worths()
        if not worths:
            raise Refused("told")
        return worths

    def field(self):
        return least_field(self.mesh(), self._told())

    def energy(self):
        return energy(self.mesh(), self.field())

    def flows(self):
        return flows(self.mesh(), self.field())

    def worth_at(self, point):
        return field_at(self.mesh(), self.field(), point)

    def span(self):
        return span_of(self._told())

    def is_calm(self):
        return is_calm(self.mesh(), self.worths())

    def calls(self):
        """The calls that were done and are not undone."""
        return tuple(self._calls[:self._done])

    def depth(self):
        """How many calls can be undone, and how many redone."""
        return (self._done, len(self._calls) - self._done)

    def do(self, call):
        """Does a call; tells "done", or why nothing changes."""
        try:
            self._go(call)
        except Refused as refused:
            return refused.word
        return "done"

    def _go(self, call):
        if not is_call(call):
            raise Refused("call")
        if call[0] == "undo":
            self._move_to(self._done - 1)
        elif call[0] == "redo":
            self._move_to(self._done + 1)
        else:
            self._add(call, state_behind(self.plate, self._state(), call))

    def _move_to(self, done):
        if not 0 <= done <= len(self._calls):
            raise Refused("nothing")
        self._done = done

    def _add(self, call, state):
        """Goes on from here to a state; what was undone is forgotten."""
        stage = (state, self._mesh_behind(state[1]))
        self._calls = self._calls[:self._done] + [call]
        self._stages = self._stages[:self._done + 1] + [stage]
        self._done += 1

    def _mesh_behind(self, knots):
        """The mesh with some knots, from that at hand if it has no others."""
        old = self._state()[1]
        if knots[:len(old)] != old:
            return mesh_with(self.plate, knots)
        mesh = self.mesh()
        for knot in knots[len(old):]:
            mesh = _with_knot(mesh, knot)
        return mesh

    def twin(self):
        """Another studio at the same place; each goes on alone."""
        other = Studio(self.plate)
        other._calls = list(self._calls)
        other._stages = list(self._stages)
        other._done = self._done
        return other
