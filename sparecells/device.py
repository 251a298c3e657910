"""A device: its cells under deeds, cuts and going on, what was done, and what was taken back."""
from sparecells.checks import check_cell, is_count_below
from sparecells.courses import first_state, is_made, lacking, lost
from sparecells.deeds import is_deed, new_in, state_behind, state_cut, wrongs_of
from sparecells.errors import (
    InvalidBlock, InvalidDeed, InvalidDevice, InvalidRecord, NothingToRedo, NothingToUndo, Refused)
from sparecells.plans import is_plan_from, plan_from, ways_from


class Trial:
    """What a device has to be again when the rows of a `with` are left."""

    def __init__(self, device):
        self._device = device
        self._past = ()
        self._future = ()

    def __enter__(self):
        device = self._device
        self._past = device._past
        self._future = device._future
        return device

    def __exit__(self, kind, value, trace):
        device = self._device
        device._past = self._past
        device._future = self._future


class Device:
    """The cells of a device, made of a recipe and a number of cells."""

    def __init__(self, recipe, cells):
        self._first = tuple(first_state(recipe, cells))
        self._recipe = recipe
        # Tuples of (command, state behind it): never changed, only replaced, so trials and copies may keep them.
        self._past = ()
        self._future = ()

    def recipe(self):
        """The recipe of the device."""
        return self._recipe

    def state(self):
        """The state of the cells."""
        return list(self._past[-1][1] if self._past else self._first)

    def done(self):
        """How many deeds were done and are not taken back."""
        return len([command for command in self.record() if command[0] != "cut"])

    def make(self, block, cell):
        """Make a new block into a cell."""
        if not is_count_below(block, self._recipe.size()):
            raise InvalidBlock(block)
        check_cell(len(self._first), cell)
        deed = ("make", block, cell)
        self._add_step(deed, self._state_behind(deed))

    def lead(self, start, cell):
        """Copy what lies in a cell to another one."""
        check_cell(len(self._first), start)
        check_cell(len(self._first), cell)
        self._add_step(("lead", start, cell), self._state_behind(("copy", start, cell)))

    def cut(self, deed):
        """Let the power fall amid a deed."""
        if not is_deed(self._recipe, len(self._first), deed):
            raise InvalidDeed(deed)
        self._check_right(deed)
        self._add_step(("cut", deed), state_cut(self.state(), deed))

    def _state_behind(self, deed):
        """The state behind a deed that is right."""
        self._check_right(deed)
        return state_behind(self.state(), deed)

    def _check_right(self, deed):
        """Raise Refused unless a deed is right."""
        if wrongs_of(self._recipe, self.state(), deed):
            raise Refused(deed)

    def _add_step(self, command, state):
        """Keep a command and the state behind it; what was taken back can be made again no more."""
        self._past = self._past + ((command, tuple(state)),)
        self._future = ()

    def is_done(self):
        """Whether the state is made."""
        return is_made(self._recipe, self.state())

    def lot_there(self):
        """The ascending list of the new blocks that lie in the cells."""
        return new_in(self.state())

    def lacking_there(self):
        """The ascending list of the new blocks that do not lie in their own cells."""
        return lacking(self._recipe, self.state())

    def lost_there(self):
        """The ascending list of the new blocks that lie in no cell and can be made no more."""
        return lost(self._recipe, self.state())

    def ways_on(self):
        """The ascending list of the lots from which the device can be gone on."""
        return ways_from(self._recipe, self.state())

    def can_finish(self):
        """Whether right deeds lead from the state to one that is made."""
        return self.is_done() or len(self.ways_on()) > 0

    def plan_on(self):
        """Deeds, not too many, each right, that lead from the state to one that is made."""
        if self.is_done():
            return []
        ways = self.ways_on()
        if not ways:
            raise Refused(self.state())
        # The longest lot has the fewest blocks still to be made.
        return plan_from(self._recipe, self.state(), max(ways, key=len))

    def is_plan_on(self, value):
        """Whether any object is deeds, not too many, each right, that lead from the state to one that is made."""
        return is_plan_from(self._recipe, self.state(), value)

    def undo(self):
        """Take back the last deed or cut."""
        if not self._past:
            raise NothingToUndo()
        self._future = self._past[-1:] + self._future
        self._past = self._past[:-1]

    def redo(self):
        """Make the deed or cut again that was taken back last."""
        if not self._future:
            raise NothingToRedo()
        self._past = self._past + self._future[:1]
        self._future = self._future[1:]

    def trial(self):
        """A trial for a `with`: when it is left, the device is as it was."""
        return Trial(self)

    def attempt(self, action):
        """What a function returns that is called with the device in a trial."""
        with self.trial():
            return action(self)

    def copy(self):
        """An independent device that is the same."""
        other = Device(self._recipe, len(self._first))
        other._past = self._past
        other._future = self._future
        return other

    def record(self):
        """The list of the commands that are not taken back."""
        return [step[0] for step in self._past]


def check_device(device):
    """Raise InvalidDevice unless something is a device."""
    if not isinstance(device, Device):
        raise InvalidDevice(device)


def replayed(device, record):
    """A copy of a device on which the commands of a record are made."""
    check_device(device)
    if not isinstance(record, list) or not all([_is_kept(item) for item in record]):
        raise InvalidRecord(record)
    other = device.copy()
    for command in record:
        carry_out(other, command)
    return other


def _is_kept(value):
    """Whether any object is a tuple of a word of a record and as many things as belong behind it."""
    if not isinstance(value, tuple) or len(value) == 0:
        return False
    if value[0] == "cut":
        return len(value) == 2
    return value[0] in ("make", "lead") and len(value) == 3


def carry_out(device, command):
    """Make a command of a record on a device."""
    if command[0] == "make":
        device.make(command[1], command[2])
    elif command[0] == "lead":
        device.lead(command[1], command[2])
    else:
        device.cut(command[1])
