"""Points [69] to [71]: ordinary inputs and edges, all states of tiny devices."""
import random
import unittest

from sparecells import errors
from sparecells.device import Device, replayed
from sparecells.orders import least_cells
from sparecells.plans import plan
from sparecells.recipes import Recipe
from tests.models import Model, carry_out, commands_of, deed_of, plain_behind, plain_ways, told_by
from tests.plain import is_plain_deed, plain_done, plain_wrongs
from tests.support import CHAIN, TREE, any_objects, great_pairs, small_pairs
from tests.test_courses import SWAP, all_deeds, is_plain_made

TINY = [((1, [[0]]), 1), ((1, [[0]]), 2), (SWAP, 2), (SWAP, 3), ((0, [[], []]), 2), ((1, [[0], []]), 2),
        ((1, [[0], []]), 3), ((1, [[0], [0]]), 3), ((2, [[0, 1], [1]]), 3), ((0, [[], []]), 1), ((0, [[]]), 1)]
# Where there are as many cells as new blocks, and no spare one at the end.
TIGHT = [((0, [[], [], []]), 3), ((1, [[0], [], []]), 3), ((2, [[], [0, 1], []]), 3)]


def reached_states(pair, cells):
    """All states that right deeds and cuts lead to, each with commands that do."""
    model = Model(pair, cells)
    found = {tuple(model.state_behind([])): []}
    todo = list(found)
    for state in todo:
        for command in commands_of(len(pair[1]), cells):
            if not plain_wrongs(pair[1], list(state), deed_of(command)):
                later = tuple(plain_behind(list(state), command))
                if later not in found:
                    found[later] = found[state] + [command]
                    todo.append(later)
    return found


def finishing_states(pair, states):
    """Those of some states, closed under right deeds, from which right deeds lead to one that is made."""
    ahead = {}
    for state in states:
        for deed in all_deeds(len(pair[1]), len(state)):
            if not plain_wrongs(pair[1], list(state), deed):
                ahead.setdefault(tuple(plain_done(list(state), deed)), []).append(state)
    todo = [state for state in states if is_plain_made(pair[1], list(state))]
    good = set(todo)
    for state in todo:
        for before in ahead.get(state, []):
            if before not in good:
                good.add(before)
                todo.append(before)
    return good


def is_plain_plan_on(pair, state, thing):
    if type(thing) is not list or not all(is_plain_deed(Recipe(*pair), len(state), item) for item in thing):
        return False
    now = list(state)
    for deed in thing:
        if plain_wrongs(pair[1], now, deed):
            return False
        now = plain_done(now, deed)
    return is_plain_made(pair[1], now) and len(thing) <= len(pair[1]) + 2 * len(state)


class FinishTest(unittest.TestCase):
    def test_all_states_of_tiny_devices(self):
        for pair, cells in TINY + TIGHT:
            states = reached_states(pair, cells)
            good = finishing_states(pair, list(states))
            for number, (state, commands) in enumerate(states.items()):
                if cells == 3 and len(states) > 200 and number % 3:
                    continue
                device = replayed(Device(Recipe(*pair), cells), commands)
                self.assertEqual(device.state(), list(state))
                self.check_state(pair, device, state in good)
                self.check_cuts(pair, device, good)

    def check_state(self, pair, device, can):
        state = device.state()
        ways = plain_ways(pair, state)
        self.assertEqual(device.ways_on(), ways)
        self.assertIs(device.can_finish(), can)
        self.assertEqual(can, is_plain_made(pair[1], state) or ways != [])
        if can:
            told = device.plan_on()
            self.assertTrue(is_plain_plan_on(pair, state, told), (pair, state, told))
            self.assertIs(device.is_plan_on(told), True)
        else:
            with self.assertRaises(errors.Refused) as caught:
                device.plan_on()
            self.assertEqual(caught.exception.value, state)
            self.assertIs(device.is_plan_on([]), False)

    def check_cuts(self, pair, device, good):
        """Behind a cut a device can be finished exactly if it can behind the deed."""
        state = device.state()
        for deed in all_deeds(len(pair[1]), len(state)):
            if not plain_wrongs(pair[1], state, deed):
                device.cut(deed)
                self.assertIs(device.can_finish(), tuple(plain_done(state, deed)) in good)
                device.undo()

    def test_greater_devices(self):
        chance = random.Random(70)
        finished = [0, 0]
        for pair in small_pairs()[::5] + great_pairs()[2:]:
            for cells in {max(1, pair[0]), min(10, pair[0] + len(pair[1]))}:
                device = Device(Recipe(*pair), cells)
                for _ in range(8):
                    commands = commands_of(len(pair[1]), cells)
                    right = [each for each in commands if not plain_wrongs(pair[1], device.state(), deed_of(each))]
                    if right:
                        carry_out(device, chance.choice(right))
                    if len(pair[1]) < 6:
                        self.check_state(pair, device, is_plain_made(pair[1], device.state()) or bool(
                            plain_ways(pair, device.state())))
                    elif device.can_finish():
                        self.assertTrue(is_plain_plan_on(pair, device.state(), device.plan_on()))
                    finished[device.can_finish()] += 1
        self.assertGreater(min(finished), 40)

    def test_a_plan_is_gone_on_with_behind_cuts(self):
        for pair in [SWAP, CHAIN, TREE, (2, [[], [0, 1], []])]:
            recipe = Recipe(*pair)
            cells = least_cells(recipe)
            device = Device(recipe, cells)
            for deed in plan(recipe, cells):
                device.cut(deed)
                self.assertIs(device.can_finish(), True)
                told = device.plan_on()
                self.assertTrue(is_plain_plan_on(pair, device.state(), told))
                carry_out(device, ("lead" if deed[0] == "copy" else "make", *deed[1:]))
                self.assertIs(device.can_finish(), True)
            self.assertIs(device.is_done(), True)
            self.assertEqual(device.plan_on() == [], True)

    def test_the_lot_of_all_blocks(self):
        device = Device(Recipe(2, [[0], [1]]), 3)
        for command in [("make", 0, 2), ("lead", 2, 0), ("make", 1, 2), ("lead", 2, 1)]:
            carry_out(device, command)
        self.assertEqual((device.is_done(), device.ways_on()), (True, [[0, 1]]))
        device = Device(Recipe(2, [[0], [1]]), 3)
        for command in [("make", 1, 2), ("lead", 2, 1), ("make", 0, 2), ("lead", 2, 0), ("lead", 1, 2), ("lead", 0, 1)]:
            carry_out(device, command)
        self.assertEqual(device.state(), [("new", 0), ("new", 0), ("new", 1)])
        self.assertEqual((device.is_done(), device.ways_on(), device.lost_there()), (False, [[0, 1]], []))
        self.assertEqual(device.plan_on(), [("copy", 2, 1)])
        # As many new blocks as cells: with all there no cell is left, so it is gone on from fewer.
        device = Device(Recipe(0, [[], []]), 2)
        device.make(1, 0)
        device.make(0, 1)
        self.assertEqual((device.lot_there(), device.ways_on(), device.can_finish()), ([0, 1], [[], [0], [1]], True))
        self.assertEqual(len(device.plan_on()) <= 6, True)

    def test_made_but_with_no_way_on(self):
        device = Device(Recipe(1, [[0]]), 1)
        self.assertEqual((device.ways_on(), device.can_finish()), ([], False))
        self.assert_refused_with_state(device)
        # A single cell is filled by the image, and no block need be made any more.
        full = Device(Recipe(0, [[]]), 1)
        full.make(0, 0)
        self.assertEqual((full.is_done(), full.ways_on(), full.can_finish(), full.plan_on()), (True, [[]], True, []))

    def assert_refused_with_state(self, device):
        before = told_by(device)
        with self.assertRaises(errors.Refused) as caught:
            device.plan_on()
        self.assertEqual(caught.exception.value, device.state())
        self.assertEqual(told_by(device), before)

    def test_fewer_cells_than_new_blocks(self):
        device = Device(Recipe(1, [[], [], []]), 2)
        self.assertEqual((device.ways_on(), device.can_finish(), device.is_done()), ([], False, False))
        device.make(0, 0)
        device.make(1, 1)
        self.assertEqual((device.ways_on(), device.lacking_there(), device.lost_there()), ([], [2], []))
        self.assert_refused_with_state(device)

    def test_is_plan_on_of_other_lists(self):
        for pair, commands in [
                (SWAP, []), (SWAP, [("make", 0, 2)]), (SWAP, [("make", 0, 2), ("cut", ("copy", 2, 0))]),
                ((1, [[0]]), [("make", 0, 1), ("lead", 1, 0)]), ((0, [[], []]), [])]:
            device = replayed(Device(Recipe(*pair), pair[0] + 1 if pair[0] else 2), commands)
            state = device.state()
            others = [[], None] + any_objects()
            if device.can_finish():
                told = device.plan_on()
                others += [told[:at] + told[at + 1:] for at in range(len(told))] + [tuple(told)]
                others += [told + [deed] for deed in all_deeds(len(pair[1]), len(state))]
                others += [[deed] + told for deed in all_deeds(len(pair[1]), len(state))]
                most = len(pair[1]) + 2 * len(state)
                filling = [("copy", 0, len(state) - 1)] if len(state) > len(pair[1]) else [("make", 0, 0)]
                others += [told + filling * (most - len(told)), told + filling * (most + 1 - len(told))]
            for other in others:
                right = is_plain_plan_on(pair, state, other)
                self.assertIs(device.is_plan_on(other), right, (state, other))
            self.assertEqual(device.record(), commands)
