"""Points [74] and [75]: ordinary inputs and edges."""
import copy
import inspect
import random
import unittest

from sparecells import errors, scripts
from sparecells.device import Device, replayed
from sparecells.recipes import Recipe
from sparecells.scripts import end_of, play, read_script, script_text, shortened
from tests.models import Model, commands_of, deed_of, plain_ways, told_by
from tests.plain import is_plain_script, is_plain_script_text
from tests.support import CHAIN, ErrorChecks, any_objects
from tests.test_courses import SWAP, is_plain_made
from tests.test_papers import neighbours

BARE = ["undo", "redo", "state", "is_done", "lot_there", "ways_on", "can_finish"]


def plain_error(model, command):
    """The name of the error that a deed's command raises on a device, None if it raises none."""
    size, cells = len(model.pair[1]), model.cells
    word, first, second = deed_of(command)
    if command[0] == "cut":
        right = first < (size if word == "make" else cells) and second < cells
        return "InvalidDeed" if not right else None if model.is_right(command) else "Refused"
    if word == "make" and first >= size:
        return "InvalidBlock"
    if second >= cells or word == "copy" and first >= cells:
        return "InvalidCell"
    return None if model.is_right(command) else "Refused"


def plain_play(model, script):
    """A walk of the test's own through a script."""
    return [plain_answer(model, command) for command in script]


def plain_answer(model, command):
    word = command[0]
    if word == "try":
        kept = (model.past, model.future)
        told = plain_play(model, command[1])
        model.past, model.future = kept
        return ("tried", told)
    if word in ("undo", "redo"):
        if not (model.past if word == "undo" else model.future):
            return ("refused", "NothingTo" + word.capitalize())
        model.undo() if word == "undo" else model.redo()
        return ("done",)
    if word in BARE:
        state, _, done, there, *_ = model.told()
        ways = plain_ways(model.pair, state)
        finished = is_plain_made(model.pair[1], state) or ways != []
        answers = {"state": state, "is_done": done, "lot_there": there, "ways_on": ways, "can_finish": finished}
        return ("told", answers[word])
    error = plain_error(model, command)
    if error:
        return ("refused", error)
    model.carry_out(command)
    return ("done",)


def some_script(chance, size, cells, length, depth):
    """A script with deeds, most of them on blocks and cells that there are, asking, undo and tries."""
    script = []
    for _ in range(length):
        number = chance.random()
        if number < 0.15 and depth > 0:
            script.append(("try", some_script(chance, size, cells, chance.randrange(5), depth - 1)))
        elif number < 0.5:
            script.append((chance.choice(BARE[:2] if number < 0.3 else BARE),))
        elif number < 0.95:
            script.append(chance.choice(commands_of(size, cells)))
        else:
            script.append(chance.choice(commands_of(size + 1, cells + 1)))
    return script


def plain_script_text(script):
    lines = []

    def write(part, ahead):
        for command in part:
            if command[0] == "try":
                lines.append(ahead + "try")
                write(command[1], ahead + "  ")
                lines.append(ahead + "end")
            elif command[0] == "cut":
                lines.append(ahead + "cut {} {} {}".format(*command[1]))
            else:
                lines.append(ahead + " ".join(map(str, command)))
    write(script, "")
    return "\n".join(lines)


PAIRS = [(SWAP, 3), (CHAIN, 4), ((0, [[], []]), 2), ((1, [[0]]), 2), ((1, [[0]]), 1)]


class PlayTest(ErrorChecks, unittest.TestCase):
    def test_names_and_arguments(self):
        for function, names in [
                (play, ["device", "script"]), (end_of, ["recipe", "cells", "script"]),
                (shortened, ["recipe", "cells", "script"]), (script_text, ["script"]), (read_script, ["text"])]:
            self.assertEqual(list(inspect.signature(function).parameters), names)
            self.assertEqual(function.__module__, scripts.__name__)
        device = Device(Recipe(*SWAP), 3)
        self.assertEqual(play(script=[("make", 0, 2)], device=device), [("done",)])

    def test_some_scripts(self):
        chance = random.Random(74)
        words = set()
        for number in range(150):
            pair, cells = PAIRS[number % len(PAIRS)]
            script = some_script(chance, len(pair[1]), cells, 12, 4)
            device, model = Device(Recipe(*pair), cells), Model(pair, cells)
            before = repr(script)
            told = play(device, script)
            self.assertEqual(told, plain_play(model, script), script)
            self.assertEqual(told_by(device), model.told())
            self.assertEqual(end_of(Recipe(*pair), cells, script), device.state())
            self.assertEqual(repr(script), before)
            words |= {part[-1] for part in told if part[0] == "refused"}
        self.assertEqual(words, {"InvalidBlock", "InvalidCell", "InvalidDeed", "Refused", "NothingToUndo",
            "NothingToRedo"})

    def test_each_answer(self):
        device = Device(Recipe(*SWAP), 3)
        script = [("undo",), ("redo",), ("make", 2, 0), ("make", 0, 3), ("make", 0, 1), ("lead", 3, 0), ("lead", 0, 3)]
        script += [("lead", 0, 0), ("cut", ("make", 2, 0)), ("cut", ("copy", 0, 3)), ("cut", ("copy", 2, 0))]
        names = ["NothingToUndo", "NothingToRedo", "InvalidBlock", "InvalidCell", "Refused", "InvalidCell",
            "InvalidCell"]
        names += ["Refused", "InvalidDeed", "InvalidDeed", "Refused"]
        self.assertEqual(play(device, script), [("refused", name) for name in names])
        self.assertEqual(told_by(device), Model(SWAP, 3).told())
        told = play(device, [("is_done",), ("lot_there",), ("ways_on",), ("can_finish",), ("state",), ("try", [])])
        state = [("old", 0), ("old", 1), None]
        self.assertEqual(told, [("told", False), ("told", []), ("told", [[]]), ("told", True), ("told", state),
            ("tried", [])])

    def test_tries_nested_in_tries(self):
        device = Device(Recipe(*SWAP), 3)
        device.make(0, 2)
        before = told_by(device)
        deep = [("undo",), ("try", [("redo",), ("try", [("make", 1, 1), ("try", [("undo",), ("state",)])]),
            ("state",)])]
        state = [("old", 0), ("old", 1), ("new", 0)]
        told = [("done",), ("tried", [("done",), ("tried", [("done",), ("tried", [("done",), ("told", state)])]),
                                      ("told", state)])]
        self.assertEqual(play(device, [("try", deep), ("state",)]), [("tried", told), ("told", state)])
        self.assertEqual(told_by(device), before)

    def test_the_device_is_changed_as_far_as_commands_are_made(self):
        device = Device(Recipe(*SWAP), 3)
        other = device.copy()
        play(device, [("make", 0, 2), ("make", 0, 1), ("cut", ("make", 1, 1)), ("undo",)])
        self.assertEqual((device.record(), other.record()), ([("make", 0, 2)], []))
        play(device, [("redo",)])
        self.assertEqual(device.record(), [("make", 0, 2), ("cut", ("make", 1, 1))])
        with device.trial():
            play(device, [("undo",), ("undo",)])
        self.assertEqual(device.done(), 1)

    def test_wrong_devices_and_scripts(self):
        device = Device(Recipe(*SWAP), 3)
        for thing in any_objects():
            if type(thing) is not Device:
                for other in ([], None, thing, [("undo",)]):
                    self.assert_error(errors.InvalidDevice, thing, play, thing, other)
            if not is_plain_script(thing):
                for function, ahead in [
                        (play, [device]), (end_of, [Recipe(*SWAP), 3]), (shortened, [Recipe(*SWAP), 3]),
                            (script_text, [])]:
                    self.assert_error(errors.InvalidScript, thing, function, *ahead, thing)
        self.assertEqual(told_by(device), Model(SWAP, 3).told())

    def test_nothing_of_a_wrong_script_is_made(self):
        device = Device(Recipe(*SWAP), 3)
        wrongs = [(), ("make", 0, True), ["undo"], ("try", ()), ("try", [["undo"]]), ("cut", ["make", 0, 0]),
            ("undo", 0)]
        wrongs += [("cut", "make", 0, 0), ("lead", -1, 0), ("done",), ("make", 0, "0"), ("copy", 0, 1), None,
            ("try", None)]
        for wrong in wrongs:
            for script in ([("make", 0, 2), wrong], [wrong, ("make", 0, 2)], [("make", 0, 2), ("try", [wrong])]):
                self.assert_error(errors.InvalidScript, script, play, device, script)
                self.assert_error(errors.InvalidScript, script, script_text, script)
        self.assertEqual(device.record(), [])


class ShortenedTest(ErrorChecks, unittest.TestCase):
    def plain_end(self, pair, cells, script):
        model = Model(pair, cells)
        plain_play(model, script)
        return model.told()[0]

    def plain_shortened(self, pair, cells, script):
        end = self.plain_end(pair, cells, script)
        kept = list(range(len(script)))
        for at in range(len(script) - 1, -1, -1):
            fewer = [place for place in kept if place != at]
            if self.plain_end(pair, cells, [script[place] for place in fewer]) == end:
                kept = fewer
        return [script[place] for place in kept]

    def test_some_scripts(self):
        chance = random.Random(75)
        lengths = set()
        for number in range(80):
            pair, cells = PAIRS[number % len(PAIRS)]
            script = some_script(chance, len(pair[1]), cells, 12 - number % 4, 2)
            told = shortened(Recipe(*pair), cells, script)
            self.assertEqual(told, self.plain_shortened(pair, cells, script), script)
            self.assertEqual(end_of(Recipe(*pair), cells, told), end_of(Recipe(*pair), cells, script))
            self.assertNotIn("try", [command[0] for command in told])
            lengths.add(len(told))
        self.assertGreater(len(lengths), 3)

    def test_all_can_go_or_none(self):
        swap = Recipe(*SWAP)
        self.assertEqual(shortened(swap, 3, []), [])
        script = [("make", 9, 0), ("is_done",), ("undo",), ("try", [("make", 0, 2)]), ("make", 0, 1), ("redo",)]
        self.assertEqual(shortened(swap, 3, script), [])
        script = [("make", 0, 2), ("make", 1, 1), ("lead", 2, 0)]
        self.assertEqual(shortened(swap, 3, script), script)
        self.assertEqual(end_of(swap, 3, script), [("new", 0), ("new", 1), ("new", 0)])

    def test_from_the_last_one_on(self):
        swap = Recipe(*SWAP)
        # Either of two that do the same can go: it is the last one.
        script = [("make", 0, 2), ("lead", 2, 1), ("make", 0, 2)]
        self.assertEqual(shortened(swap, 3, script), script[:2])
        script = [("lead", 0, 2), ("make", 0, 2)]
        self.assertEqual(shortened(swap, 3, script), script[1:])
        # Each is asked once, and with those ahead of it: what is left may have one more that could go.
        script = [("make", 0, 2), ("undo",), ("redo",)]
        self.assertEqual(shortened(swap, 3, script), [("make", 0, 2), ("redo",)])
        self.assertEqual(shortened(swap, 3, [("make", 0, 2), ("undo",), ("redo",), ("undo",)]), [("undo",)])
        # A refused one can always go.
        script = [("make", 9, 9), ("make", 0, 2), ("lead", 2, 2)]
        self.assertEqual(shortened(swap, 3, script), [("make", 0, 2)])

    def test_errors_of_both_as_of_device(self):
        script = [("undo",)]
        for function in (end_of, shortened):
            self.assert_error(errors.InvalidRecipe, None, function, None, 0, None)
            self.assert_error(errors.InvalidCells, 1, function, Recipe(*SWAP), 1, None)
            self.assert_error(errors.InvalidCells, 0, function, Recipe(0, [[]]), 0, script)
            self.assert_error(errors.InvalidScript, None, function, Recipe(*SWAP), 2, None)


class TextTest(ErrorChecks, unittest.TestCase):
    def test_written_and_read(self):
        chance = random.Random(76)
        for number in range(200):
            pair, cells = PAIRS[number % len(PAIRS)]
            script = some_script(chance, len(pair[1]), cells, chance.randrange(13), 4)
            text = script_text(script)
            self.assertEqual(text, plain_script_text(script))
            self.assertEqual(read_script(text), script)
        for script in [[], [("try", [])], [("try", [("try", [("try", [("try", [("redo",)])])])])],
                [("make", 10 ** 29, 10)],
                       [(word,) for word in BARE], [("cut", ("copy", 0, 10 ** 29)), ("lead", 12, 0)]]:
            self.assertEqual(script_text(script), plain_script_text(script))
            self.assertEqual(read_script(script_text(script)), script)

    def test_long_texts(self):
        script = [("make", 0, 1), ("try", [("undo",)] * 100)] * 2 + [("cut", ("make", 0, 2))] * 40
        self.assertEqual(read_script(script_text(script)), script)

    def check_text(self, text):
        if is_plain_script_text(text):
            self.assertEqual(script_text(read_script(text)), text)
        else:
            self.assert_error(errors.InvalidText, text, read_script, text)

    def test_texts_that_differ_a_little(self):
        for script in [[("make", 0, 2), ("try", [("cut", ("make", 1, 1)), ("undo",)])],
                [("try", [("try", [])]), ("redo",)]]:
            for text in neighbours(script_text(script)):
                self.check_text(text)

    def test_any_object(self):
        for thing in any_objects():
            self.check_text(thing)
            if is_plain_script(thing):
                self.assertEqual(read_script(script_text(thing)), thing)

    def test_texts_at_the_edges(self):
        wrong = ["try", "end", "try\nend\nend", "try\ntry\nend", "try\n  try\nend\nend", "  undo",
            "try\n undo\nend", "\n"]
        wrong += ["try\n   undo\nend", "try\n  undo\n  end", "try\n\nend", "undo\n", "\nundo", "undo ", "make 0",
            "make 0 1 2"]
        wrong += ["make 0 01", "make  0 1", "make 0 -1", "make 0 +1", "make 0 1_0", "lead x 0", "copy 0 1", "cut",
            "cut 0 1"]
        wrong += ["cut make 0", "cut lead 0 1", "cut try", "cut  make 0 1", "state 0", "Undo", "try 0", "end 0",
            "done", "0"]
        wrong += ["cut make 0 1 2", "make\t0\t1", "try \nend", "try\nend ", "undo redo", "1 0 2"]
        for text in wrong:
            self.assertFalse(is_plain_script_text(text))
            self.assert_error(errors.InvalidText, text, read_script, text)
        self.assertEqual(read_script(""), [])
        self.assertEqual(read_script("try\nend"), [("try", [])])


class UnchangedTest(unittest.TestCase):
    def test_what_was_told_or_passed_is_changed_afterwards(self):
        swap = Recipe(*SWAP)
        script = [("make", 0, 2), ("try", [("lead", 2, 0), ("state",)]), ("ways_on",)]
        kept = copy.deepcopy(script)
        device = Device(swap, 3)
        told = play(device, script)
        again = copy.deepcopy(told)
        script[1][1].append(("undo",))
        script.append(7)
        self.assertEqual(told, again)
        told[1][1][1][1].append(7)
        told[2][1][0].append(7)
        self.assertEqual(play(Device(swap, 3), kept), again)
        self.assertEqual(replayed(Device(swap, 3), device.record()).state(), device.state())
        text = script_text(kept)
        read = read_script(text)
        read[1][1].append(7)
        self.assertEqual(read_script(text), kept)
        end = end_of(swap, 3, kept)
        end.append(7)
        self.assertEqual(end_of(swap, 3, kept), end[:-1])
        left = shortened(swap, 3, kept)
        left.append(7)
        self.assertEqual((shortened(swap, 3, kept), len(kept)), ([("make", 0, 2)], 3))
