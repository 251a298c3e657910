"""A model of a device, kept by the tests: two lists of commands, and what the document tells of them."""
from itertools import permutations

from sparecells import errors
from tests.plain import plain_cut, plain_done, plain_wrongs
from tests.support import plain_held, plain_lots
from tests.test_courses import all_deeds


def commands_of(size, cells):
    """All commands of a record on so many cells."""
    deeds = all_deeds(size, cells)
    leads = [("lead", deed[1], deed[2]) if deed[0] == "copy" else deed for deed in deeds]
    return leads + [("cut", deed) for deed in deeds]


def deed_of(command):
    """The deed that a command does, or amid which it cuts."""
    if command[0] == "cut":
        return command[1]
    return ("copy", *command[1:]) if command[0] == "lead" else command


def plain_behind(state, command):
    """The state behind a command."""
    return (plain_cut if command[0] == "cut" else plain_done)(state, deed_of(command))


def carry_out(device, command):
    word, *rest = command
    getattr(device, word)(*rest)


class Model:
    """What a device tells, kept as two lists of commands."""

    def __init__(self, pair, cells):
        self.pair, self.cells, self.past, self.future = pair, cells, [], []

    def state_behind(self, commands):
        state = [("old", cell) if cell < self.pair[0] else None for cell in range(self.cells)]
        for command in commands:
            state = plain_behind(state, command)
        return state

    def told(self):
        """All that the methods tell but for the ways on, and what can be made again."""
        needs = self.pair[1]
        state = self.state_behind(self.past)
        there = [block for block in range(len(needs)) if ("new", block) in state]
        lacking = [block for block in range(len(needs)) if state[block:block + 1] != [("new", block)]]
        lost = [block for block in range(len(needs)) if block not in there]
        lost = [block for block in lost if any(("old", old) not in state for old in needs[block])]
        done = len([command for command in self.past if command[0] != "cut"])
        return (state, done, not lacking, there, lacking, lost, self.past, self.future)

    def is_right(self, command):
        return not plain_wrongs(self.pair[1], self.state_behind(self.past), deed_of(command))

    def carry_out(self, command):
        self.past = self.past + [command]
        self.future = []

    def undo(self):
        self.future = self.past[-1:] + self.future
        self.past = self.past[:-1]

    def redo(self):
        self.past = self.past + self.future[:1]
        self.future = self.future[1:]


def told_by(device):
    """All that the methods of a device tell but for the ways on, and what can be made again."""
    other = device.copy()
    again = len(other.record())
    while True:
        try:
            other.redo()
        except errors.NothingToRedo:
            break
    return (
        device.state(), device.done(), device.is_done(), device.lot_there(), device.lacking_there(),
            device.lost_there(),
        device.record(), other.record()[again:])


def plain_ways(pair, state):
    """The lots from which a state is gone on from, each sequence tried, told by the words of the document."""
    many, needs = pair
    size, cells = len(needs), len(state)
    found = []
    for lot in plain_lots(size):
        there = all(("new", block) in state for block in lot)
        behind = {old for block in range(size) if block not in lot for old in needs[block]}
        if not there or any(("old", old) not in state for old in behind) or plain_held(needs, lot) >= cells:
            continue
        rest = [block for block in range(size) if block not in lot]
        for road in permutations(rest):
            passed = [sorted(lot + list(road[:at])) for at in range(1, len(road))]
            if all(plain_held(needs, other) < cells for other in passed):
                found.append(lot)
                break
    return found
