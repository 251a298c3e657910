"""Scripts: lists of commands for a device, played, shortened, written and read."""
from sparecells.checks import is_count
from sparecells.device import Device, carry_out, check_device
from sparecells.errors import (
    InvalidBlock, InvalidCell, InvalidDeed, InvalidScript, InvalidText, NothingToRedo, NothingToUndo, Refused)
from sparecells.papers import rows_of

# The words that stand alone in their commands.
_LONELY = ("undo", "redo", "state", "is_done", "lot_there", "ways_on", "can_finish")


def play(device, script):
    """Make the commands of a script on a device, and tell what comes of each."""
    check_device(device)
    _check_script(script)
    return _played(device, script)


def _played(device, script):
    """What comes of each command of a script, one behind the other."""
    return [_outcome(device, command) for command in script]


def _outcome(device, command):
    """What comes of a command: that it is done, what it tells, by which error it is refused, or what was tried."""
    if command[0] == "try":
        with device.trial():
            return ("tried", _played(device, command[1]))
    try:
        told = _told(device, command)
    except InvalidBlock:
        return ("refused", "InvalidBlock")
    except InvalidCell:
        return ("refused", "InvalidCell")
    except InvalidDeed:
        return ("refused", "InvalidDeed")
    except Refused:
        return ("refused", "Refused")
    except NothingToUndo:
        return ("refused", "NothingToUndo")
    except NothingToRedo:
        return ("refused", "NothingToRedo")
    return ("done",) if told is None else ("told", told)


def _told(device, command):
    """What a command, other than a try, returns."""
    word = command[0]
    if word == "undo":
        return device.undo()
    if word == "redo":
        return device.redo()
    if word == "state":
        return device.state()
    if word == "is_done":
        return device.is_done()
    if word == "lot_there":
        return device.lot_there()
    if word == "ways_on":
        return device.ways_on()
    if word == "can_finish":
        return device.can_finish()
    return carry_out(device, command)


def end_of(recipe, cells, script):
    """The state of a new device behind a script."""
    device = Device(recipe, cells)
    play(device, script)
    return device.state()


def shortened(recipe, cells, script):
    """What is left of a script when each command is left out, from the last one on, that the end does not need."""
    end = end_of(recipe, cells, script)
    left = list(script)
    for at in reversed(range(len(script))):
        fewer = left[:at] + left[at + 1:]
        if end_of(recipe, cells, fewer) == end:
            left = fewer
    return left


def script_text(script):
    """The text of a script, a line for each command, those of a try two blanks further in."""
    _check_script(script)
    return "\n".join(_lines(script))


def _lines(script):
    """The lines of the text of a script."""
    lines = []
    for command in script:
        if command[0] == "try":
            lines.extend(["try"] + ["  " + line for line in _lines(command[1])] + ["end"])
        else:
            parts = ["cut"] + list(command[1]) if command[0] == "cut" else list(command)
            lines.append(" ".join([str(part) for part in parts]))
    return lines


def read_script(text):
    """The script that has a text."""
    script = _script_in(rows_of(text))
    if text == "":
        return []
    # What is read of a text that is none has another one.
    if not _is_script(script) or script_text(script) != text:
        raise InvalidText(text)
    return script


def _script_in(rows):
    """The script that is told by lines of words and counts, the blanks ahead of them left out, or None."""
    # The scripts that are begun and not ended, each one within the one ahead.
    begun = [[]]
    for row in rows:
        parts = [part for part in row if part != ""]
        if parts == ["try"]:
            begun.append([])
        elif parts == ["end"] and len(begun) > 1:
            tried = begun.pop()
            begun[-1].append(("try", tried))
        elif parts[:1] == ["cut"]:
            begun[-1].append(("cut", tuple(parts[1:])))
        else:
            begun[-1].append(tuple(parts))
    return begun[0] if len(begun) == 1 else None


def _check_script(script):
    """Raise InvalidScript unless something is a script."""
    if not _is_script(script):
        raise InvalidScript(script)


def _is_script(value):
    """Whether any object is a list of commands."""
    return isinstance(value, list) and all([_is_command(item) for item in value])


def _is_command(value):
    """Whether any object is a command of a script."""
    if not isinstance(value, tuple) or len(value) == 0:
        return False
    word, *rest = value
    if word == "try":
        return len(rest) == 1 and _is_script(rest[0])
    if word == "cut":
        return len(rest) == 1 and _is_word_and_two_counts(rest[0], ("make", "copy"))
    if word in _LONELY:
        return len(rest) == 0
    return _is_word_and_two_counts(value, ("make", "lead"))


def _is_word_and_two_counts(value, words):
    """Whether any object is a tuple of one of some words and two counts."""
    if not isinstance(value, tuple) or len(value) != 3 or value[0] not in words:
        return False
    return is_count(value[1]) and is_count(value[2])
