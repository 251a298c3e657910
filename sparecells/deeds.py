"""Contents of cells and deeds: what they have to be, what is wrong with a deed, and what it does."""
from sparecells.checks import is_count_below
from sparecells.recipes import needs_of


def is_content(recipe, value):
    """Whether any object is what a cell may have."""
    if value is None:
        return True
    if not isinstance(value, tuple) or len(value) != 2:
        return False
    kind, block = value
    if kind == "old":
        return is_count_below(block, recipe.many())
    return kind == "new" and is_count_below(block, recipe.size())


def are_contents(recipe, value):
    """Whether any object is a list, not empty, of what cells may have."""
    if not isinstance(value, list) or len(value) == 0:
        return False
    return all([is_content(recipe, item) for item in value])


def is_deed(recipe, cells, value):
    """Whether any object is a deed on so many cells."""
    if not isinstance(value, tuple) or len(value) != 3:
        return False
    word, source, cell = value
    if not is_count_below(cell, cells):
        return False
    if word == "make":
        return is_count_below(source, recipe.size())
    return word == "copy" and is_count_below(source, cells)


def are_deeds(recipe, cells, value):
    """Whether any object is a list of deeds on so many cells."""
    return isinstance(value, list) and all([is_deed(recipe, cells, item) for item in value])


def wrongs_of(recipe, state, deed):
    """The ascending list of all that is wrong with a deed in a state."""
    word, source, cell = deed
    if word == "make":
        others = but_for(state, cell)
        return [("lacks", old) for old in needs_of(recipe, source) if ("old", old) not in others]
    found = []
    if state[source] is None:
        found.append(("nothing",))
    if source == cell:
        found.append(("same",))
    return found


def but_for(state, cell):
    """The contents of all cells but one."""
    return state[:cell] + state[cell + 1:]


def state_behind(state, deed):
    """The state behind a deed that is right."""
    word, source, cell = deed
    return _written(state, cell, ("new", source) if word == "make" else state[source])


def state_cut(state, deed):
    """The state in which the power fell amid a deed."""
    return _written(state, deed[2], None)


def state_behind_any(recipe, state, deed):
    """The state behind a deed, right or not: a make that lacks a block makes nothing of worth."""
    word, source, _ = deed
    if word == "make" and any([("old", old) not in state for old in needs_of(recipe, source)]):
        return state_cut(state, deed)
    return state_behind(state, deed)


def _written(state, cell, content):
    """The state with other content in one cell."""
    return state[:cell] + [content] + state[cell + 1:]


def right_states(recipe, state, deeds):
    """The states from one on, ahead of each deed and behind the last, up to that in which a deed is not right."""
    passed = [list(state)]
    for deed in deeds:
        if wrongs_of(recipe, passed[-1], deed):
            break
        passed.append(state_behind(passed[-1], deed))
    return passed


def new_in(contents):
    """The ascending list of the new blocks among contents."""
    return sorted({content[1] for content in contents if content is not None and content[0] == "new"})
