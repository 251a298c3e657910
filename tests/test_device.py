"""Points [67], [68], [72] and [73], and what [2] tells of trials, attempts and copies."""
import inspect
import random
import unittest

from sparecells import errors
from sparecells.courses import is_made
from sparecells.device import Device, replayed
from sparecells.orders import least_cells
from sparecells.recipes import Recipe
from tests.models import Model, carry_out, commands_of, deed_of, told_by
from tests.plain import is_below, is_plain_deed, is_plain_recipe, is_whole, plain_wrongs
from tests.support import CHAIN, TREE, ErrorChecks, any_objects, great_pairs, small_pairs
from tests.test_courses import SWAP

METHODS = {
    "recipe": [], "state": [], "done": [], "make": ["block", "cell"], "lead": ["start", "cell"], "cut": ["deed"],
    "is_done": [], "lot_there": [], "lacking_there": [], "lost_there": [], "ways_on": [], "can_finish": [],
    "plan_on": [], "is_plan_on": ["value"], "undo": [], "redo": [], "trial": [], "attempt": ["action"], "copy": [],
    "record": [],
}


class InterfaceTest(unittest.TestCase):
    def test_methods_stand_in_the_class_itself(self):
        self.assertEqual((Device.__module__, replayed.__module__), ("sparecells.device", "sparecells.device"))
        for name, parameters in METHODS.items():
            self.assertIn(name, vars(Device))
            self.assertEqual(list(inspect.signature(vars(Device)[name]).parameters), ["self"] + parameters)
        self.assertEqual(list(inspect.signature(Device).parameters), ["recipe", "cells"])
        self.assertEqual(list(inspect.signature(replayed).parameters), ["device", "record"])

    def test_arguments_by_name(self):
        device = Device(cells=3, recipe=Recipe(*SWAP))
        device.make(cell=2, block=0)
        device.cut(deed=("make", 1, 1))
        device.lead(cell=1, start=2)
        self.assertEqual(device.state(), [("old", 0), ("new", 0), ("new", 0)])
        self.assertIs(device.is_plan_on(value=None), False)
        self.assertEqual(device.attempt(action=lambda other: other.done()), 2)
        self.assertEqual(replayed(record=[], device=device).record(), device.record())

    def test_methods_return_none_or_what_is_told(self):
        device = Device(Recipe(*SWAP), 3)
        told = [device.make(0, 2), device.lead(2, 1), device.cut(("copy", 2, 1)), device.undo(), device.redo()]
        self.assertEqual(told, [None] * 5)
        self.assertIs(device.recipe(), device.recipe())
        self.assertEqual(device.recipe(), Recipe(*SWAP))
        self.assertTrue(device == device)


class FirstStateTest(ErrorChecks, unittest.TestCase):
    def test_devices_in_their_first_state(self):
        for many, needs in small_pairs()[::3] + great_pairs():
            recipe = Recipe(many, needs)
            for cells in range(max(1, many), min(max(1, many) + 3, 11)):
                device = Device(recipe, cells)
                self.assertEqual(told_by(device), Model((many, needs), cells).told())
                self.assertEqual(device.recipe(), recipe)
                self.assertIs(device.can_finish(), cells >= least_cells(recipe))
                self.assertEqual([] in device.ways_on(), device.can_finish())
                self.assert_error(errors.NothingToUndo, None, self.with_value(device.undo))
                self.assert_error(errors.NothingToRedo, None, self.with_value(device.redo))

    def with_value(self, action):
        """Errors without a field raise with None as theirs here, so that they are compared likewise."""
        def called():
            try:
                action()
            except errors.CellsError as caught:
                self.assertFalse(hasattr(caught, "value"))
                caught.value = None
                raise
        return called

    def test_wrong_recipes_and_cells(self):
        for thing in any_objects():
            if not is_plain_recipe(thing):
                self.assert_error(errors.InvalidRecipe, thing, Device, thing, 3)
                self.assert_error(errors.InvalidRecipe, thing, Device, thing, None)
            for pair in [SWAP, (0, [[]])]:
                if not is_whole(thing) or thing < max(1, pair[0]):
                    self.assert_error(errors.InvalidCells, thing, Device, Recipe(*pair), thing)
        self.assertEqual(Device(Recipe(3, [[0]]), 3).state(), [("old", 0), ("old", 1), ("old", 2)])


class WalkTest(ErrorChecks, unittest.TestCase):
    def test_long_walks(self):
        chance = random.Random(67)
        for pair in small_pairs()[::4] + [CHAIN, TREE, SWAP]:
            cells = max(1, pair[0]) + chance.randrange(3)
            self.walk(chance, Device(Recipe(*pair), cells), Model(pair, cells), 25, 2)

    def test_sixty_commands_on_ten_cells(self):
        chance = random.Random(68)
        for pair in great_pairs():
            self.walk(chance, Device(Recipe(*pair), 10), Model(pair, 10), 60, 0)

    def test_trials_ten_deep(self):
        chance = random.Random(69)
        self.walk(chance, Device(Recipe(*SWAP), 3), Model(SWAP, 3), 3, 10)

    def walk(self, chance, device, model, length, depth):
        """Do the same on a device and on a model, trials within trials, too, and compare what they tell."""
        for _ in range(length):
            self.one_thing(chance, device, model)
            self.assertEqual(told_by(device), model.told())
        if depth > 0:
            before = told_by(device)
            inner = Model(model.pair, model.cells)
            inner.past, inner.future = model.past, model.future
            with device.trial() as name:
                self.assertIs(name, device)
                self.walk(chance, device, inner, length // 2 + 1, depth - 1)
            self.assertEqual(told_by(device), before)
            self.one_thing(chance, device, model)
            self.assertEqual(told_by(device), model.told())

    def one_thing(self, chance, device, model):
        number = chance.random()
        if number < 0.25:
            self.back_or_again(device.undo, model.undo, model.past, errors.NothingToUndo)
        elif number < 0.45:
            self.back_or_again(device.redo, model.redo, model.future, errors.NothingToRedo)
        else:
            everything = commands_of(len(model.pair[1]), model.cells)
            right = [command for command in everything if model.is_right(command)]
            command = chance.choice(right if right and chance.random() < 0.8 else everything)
            if command in right:
                carry_out(device, command)
                model.carry_out(command)
            else:
                with self.assertRaises(errors.Refused) as caught:
                    carry_out(device, command)
                self.assertEqual(caught.exception.value, deed_of(command))

    def back_or_again(self, action, same, left, error):
        if left:
            action()
            same()
        else:
            self.assertRaises(error, action)


class DeedsTest(ErrorChecks, unittest.TestCase):
    def devices(self):
        """Devices amid deeds, undo and redo, and in their first state."""
        for pair, cells in [(SWAP, 3), (CHAIN, 4), ((1, [[0], []]), 2)]:
            yield Device(Recipe(*pair), cells)
            device = Device(Recipe(*pair), cells)
            device.make(0, cells - 1)
            device.lead(cells - 1, 0)
            device.cut(("copy", cells - 1, 0))
            device.undo()
            yield device

    def check_wrong(self, error, value, device, name, *arguments):
        before = told_by(device)
        self.assert_error(error, value, getattr(device, name), *arguments)
        self.assertEqual(told_by(device), before)
        with device.trial():
            self.assert_error(error, value, getattr(device, name), *arguments)
            self.assertEqual(told_by(device), before)
        self.assertEqual(told_by(device), before)

    def test_wrong_arguments(self):
        for device in self.devices():
            size, cells = device.recipe().size(), len(device.state())
            for thing in any_objects() + [size, cells, size - 1, cells - 1]:
                if not is_below(thing, size):
                    for other in (0, None, thing):
                        self.check_wrong(errors.InvalidBlock, thing, device, "make", thing, other)
                if not is_below(thing, cells):
                    self.check_wrong(errors.InvalidCell, thing, device, "make", 0, thing)
                    self.check_wrong(errors.InvalidCell, thing, device, "lead", 0, thing)
                    for other in (0, None, thing):
                        self.check_wrong(errors.InvalidCell, thing, device, "lead", thing, other)
                if not is_plain_deed(device.recipe(), cells, thing):
                    self.check_wrong(errors.InvalidDeed, thing, device, "cut", thing)

    def test_deeds_that_are_not_right(self):
        for device in self.devices():
            needs, cells = device.recipe().needs(), len(device.state())
            for command in commands_of(len(needs), cells):
                deed = deed_of(command)
                if plain_wrongs(needs, device.state(), deed):
                    before = told_by(device)
                    with self.assertRaises(errors.Refused) as caught:
                        carry_out(device, command)
                    self.assertEqual(repr(caught.exception.value), repr(deed))
                    if command[0] == "cut":
                        self.assertIs(caught.exception.value, deed)
                    self.assertEqual(told_by(device), before)

    def test_cuts_amid_right_deeds(self):
        device = Device(Recipe(*SWAP), 3)
        device.cut(("make", 0, 2))
        self.assertEqual((device.state(), device.done()), ([("old", 0), ("old", 1), None], 0))
        device.make(0, 2)
        device.cut(("copy", 2, 0))
        self.assertEqual((device.state(), device.done()), ([None, ("old", 1), ("new", 0)], 1))
        self.assertEqual((device.lot_there(), device.lacking_there(), device.lost_there()), ([0], [0, 1], [1]))
        self.assertEqual(device.record(), [("cut", ("make", 0, 2)), ("make", 0, 2), ("cut", ("copy", 2, 0))])
        device.undo()
        self.assertEqual((device.state()[0], device.done()), (("old", 0), 1))
        device.redo()
        self.assertEqual(device.state()[0], None)

    def test_a_device_without_old_blocks(self):
        device = Device(Recipe(0, [[], []]), 2)
        self.assertEqual((device.state(), device.ways_on(), device.can_finish()), ([None, None], [[]], True))
        device.make(1, 0)
        device.lead(0, 1)
        device.make(0, 0)
        self.assertEqual((device.is_done(), device.lacking_there(), device.done()), (True, [], 3))
        self.assertEqual(device.ways_on(), [[], [0], [1]])


class TrialTest(ErrorChecks, unittest.TestCase):
    def device(self):
        device = Device(Recipe(*SWAP), 3)
        device.make(0, 2)
        device.make(1, 1)
        device.undo()
        return device

    def test_a_trial_left_by_an_error(self):
        device = self.device()
        before = told_by(device)
        for error in (KeyError("x"), errors.Refused(7), GeneratorExit()):
            with self.assertRaises(type(error)) as caught:
                with device.trial():
                    device.redo()
                    device.lead(2, 0)
                    raise error
            self.assertIs(caught.exception, error)
            self.assertEqual(told_by(device), before)
        with self.assertRaises(errors.InvalidBlock):
            with device.trial():
                with device.trial():
                    device.undo()
                    device.make(9, 0)
        self.assertEqual(told_by(device), before)

    def test_undo_and_redo_reach_those_ahead_of_a_trial(self):
        device = self.device()
        before = told_by(device)
        with device.trial() as name:
            self.assertIs(name, device)
            device.redo()
            self.assertEqual(device.record(), [("make", 0, 2), ("make", 1, 1)])
            device.undo()
            device.undo()
            self.assertRaises(errors.NothingToUndo, device.undo)
            device.make(1, 2)
            self.assertRaises(errors.NothingToRedo, device.redo)
            self.assertEqual(device.record(), [("make", 1, 2)])
        self.assertEqual(told_by(device), before)
        device.redo()
        self.assertEqual(device.record(), [("make", 0, 2), ("make", 1, 1)])

    def test_a_trial_begins_when_it_is_entered(self):
        device = self.device()
        trial = device.trial()
        device.lead(2, 1)
        kept = told_by(device)
        with trial:
            device.undo()
        self.assertEqual(told_by(device), kept)
        device.trial()
        self.assertEqual(told_by(device), kept)

    def test_trials_are_nothing_that_can_be_taken_back(self):
        device = self.device()
        with device.trial():
            device.lead(2, 1)
        device.undo()
        self.assertEqual((device.record(), device.state()), ([], [("old", 0), ("old", 1), None]))
        self.assertRaises(errors.NothingToUndo, device.undo)
        with device.trial():
            self.assertRaises(errors.NothingToUndo, device.undo)
        device.redo()
        device.redo()
        self.assertRaises(errors.NothingToRedo, device.redo)

    def test_attempts(self):
        device = self.device()
        before = told_by(device)
        told, calls = [object()], []

        def action(other):
            calls.append(other)
            other.redo()
            other.lead(2, 0)
            return told
        self.assertIs(device.attempt(action), told)
        self.assertEqual((len(calls), calls[0] is device), (1, True))
        self.assertEqual(told_by(device), before)
        self.assertIs(device.attempt(lambda other: other), device)
        self.assertIs(device.attempt(lambda other: None), None)
        error = KeyError("x")

        def failing(other):
            other.undo()
            raise error
        with self.assertRaises(KeyError) as caught:
            device.attempt(failing)
        self.assertIs(caught.exception, error)
        self.assertEqual(told_by(device), before)
        self.assertEqual(device.attempt(lambda other: other.attempt(lambda same: same.undo() or same.record())), [])
        self.assertEqual(told_by(device), before)

    def test_what_was_told_in_a_trial_stays(self):
        device = self.device()
        with device.trial():
            device.lead(2, 1)
            state, record, other = device.state(), device.record(), device.copy()
        self.assertEqual(state, [("old", 0), ("new", 0), ("new", 0)])
        self.assertEqual(record, [("make", 0, 2), ("lead", 2, 1)])
        self.assertEqual((other.state(), other.record()), (state, record))


class CopyTest(unittest.TestCase):
    def test_copies_are_the_same_and_independent(self):
        device = Device(Recipe(*CHAIN), 4)
        device.make(0, 3)
        device.lead(3, 0)
        device.cut(("make", 1, 3))
        device.undo()
        device.undo()
        other = device.copy()
        self.assertEqual(told_by(other), told_by(device))
        self.assertEqual(other.recipe(), device.recipe())
        before = told_by(device)
        other.redo()
        other.redo()
        self.assertEqual(other.record(), [("make", 0, 3), ("lead", 3, 0), ("cut", ("make", 1, 3))])
        self.assertEqual(told_by(device), before)
        kept = told_by(other)
        device.undo()
        device.make(2, 3)
        self.assertEqual(told_by(other), kept)

    def test_a_copy_is_in_no_trial(self):
        device = Device(Recipe(*SWAP), 3)
        device.make(0, 2)
        with device.trial():
            device.make(1, 1)
            other = device.copy()
            other.lead(2, 0)
            kept = told_by(other)
        self.assertEqual(told_by(other), kept)
        self.assertEqual(device.record(), [("make", 0, 2)])
        other.undo()
        other.undo()
        other.undo()
        self.assertRaises(errors.NothingToUndo, other.undo)

    def test_a_new_command_ends_what_can_be_made_again(self):
        device = Device(Recipe(*SWAP), 3)
        device.make(0, 2)
        device.undo()
        self.assertRaises(errors.Refused, device.make, 0, 1)
        device.redo()
        device.undo()
        device.cut(("make", 1, 2))
        self.assertRaises(errors.NothingToRedo, device.redo)


class ReplayedTest(ErrorChecks, unittest.TestCase):
    def test_records_of_devices(self):
        chance = random.Random(73)
        for pair in small_pairs()[::6] + [SWAP, CHAIN]:
            cells = max(1, pair[0]) + 1
            device = Device(Recipe(*pair), cells)
            model = Model(pair, cells)
            for _ in range(12):
                right = [each for each in commands_of(len(pair[1]), cells) if model.is_right(each)]
                if right:
                    command = chance.choice(right)
                    carry_out(device, command)
                    model.carry_out(command)
            new = replayed(Device(Recipe(*pair), cells), device.record())
            self.assertEqual(told_by(new), told_by(device))
            half = replayed(Device(Recipe(*pair), cells), device.record()[:6])
            kept = told_by(half)
            self.assertEqual(told_by(replayed(half, device.record()[6:])), told_by(device))
            self.assertEqual(told_by(half), kept)

    def test_what_can_be_undone_of_a_replayed_one(self):
        device = Device(Recipe(*SWAP), 3)
        device.make(0, 2)
        device.make(1, 1)
        device.undo()
        same = replayed(device, [])
        same.redo()
        self.assertEqual(same.record(), [("make", 0, 2), ("make", 1, 1)])
        more = replayed(device, [("lead", 2, 1)])
        self.assertRaises(errors.NothingToRedo, more.redo)
        more.undo()
        more.undo()
        self.assertRaises(errors.NothingToUndo, more.undo)
        self.assertEqual(device.record(), [("make", 0, 2)])

    def test_wrong_devices_and_records(self):
        device = Device(Recipe(*SWAP), 3)
        for thing in any_objects():
            if type(thing) is not Device:
                for other in ([], None, [("make", 0, 2)], thing):
                    self.assert_error(errors.InvalidDevice, thing, replayed, thing, other)
            shapes = {"make": 3, "lead": 3, "cut": 2}
            kept = type(thing) is list and all(type(item) is tuple and item != () for item in thing)
            kept = kept and all(type(item[0]) is str and shapes.get(item[0]) == len(item) for item in thing)
            if not kept:
                self.assert_error(errors.InvalidRecord, thing, replayed, device, thing)
        self.assertEqual(device.record(), [])

    def test_the_first_command_that_raises_one(self):
        device = Device(Recipe(*SWAP), 3)
        things = [None, True, "0", [0], {}, 9, device]
        good = [("make", 0, 2), ("lead", 2, 1)]
        for thing in things:
            for wrong, error in [
                    (("make", thing, thing), errors.InvalidBlock), (("make", 0, thing), errors.InvalidCell),
                    (("lead", thing, None), errors.InvalidCell), (("lead", 0, thing), errors.InvalidCell),
                    (("cut", thing), errors.InvalidDeed)]:
                for later in ([], [("make", None, None)], good):
                    self.assert_error(error, thing, replayed, device, good + [wrong] + later)
                self.assert_error(error, thing, replayed, device, [wrong] + [("cut", None)])
        deed = ("make", 0, 2)
        self.assert_error(errors.Refused, deed, replayed, device, good + [("cut", deed), ("make", 9, 9)])
        with self.assertRaises(errors.Refused) as caught:
            replayed(device, good + [("lead", 0, 0), ("make", 9, 9)])
        self.assertEqual(caught.exception.value, ("copy", 0, 0))
        # What is no record is told ahead of what its commands raise.
        for wrong in ([("make", None, 0), ("undo",)], [("cut", None), ["make", 0, 0]], [("make", 0, 2), ("cut",)]):
            self.assert_error(errors.InvalidRecord, wrong, replayed, device, wrong)
        self.assertEqual(told_by(device), Model(SWAP, 3).told())


class UnchangedTest(unittest.TestCase):
    def test_changing_what_was_told_or_passed_changes_nothing(self):
        device = Device(Recipe(*SWAP), 3)
        device.make(0, 2)
        record = [("make", 1, 1)]
        other = replayed(device, record)
        record.append(("make", 0, 0))
        self.assertEqual(other.record(), [("make", 0, 2), ("make", 1, 1)])
        for name in ("state", "lot_there", "lacking_there", "lost_there", "ways_on", "plan_on", "record"):
            told = getattr(device, name)()
            kept = repr(told)
            for item in told:
                if isinstance(item, list):
                    item.append(7)
            told.append(7)
            self.assertEqual(repr(getattr(device, name)()), kept, name)

    def test_asking_changes_nothing(self):
        device = Device(Recipe(*SWAP), 3)
        device.make(0, 2)
        device.make(1, 1)
        device.undo()
        before = told_by(device)
        for name, parameters in METHODS.items():
            if name not in ("undo", "redo", "make", "lead", "cut"):
                arguments = [(lambda other: 7) if name == "attempt" else None for _ in parameters]
                getattr(device, name)(*arguments)
                self.assertEqual(told_by(device), before, name)
        device.redo()
        self.assertIs(is_made(device.recipe(), device.state()), device.is_done())
