"""Courses: deeds one behind the other on the cells, which are right, and what they come to."""
from sparecells.checks import check_cells
from sparecells.deeds import are_contents, are_deeds, but_for, is_deed, new_in, right_states, state_behind, wrongs_of
from sparecells.errors import InvalidContent, InvalidCourse, InvalidDeed, Refused
from sparecells.lots import held
from sparecells.recipes import check_recipe


def is_state(recipe, value):
    """Whether any object is a state of the cells."""
    check_recipe(recipe)
    return are_contents(recipe, value)


def first_state(recipe, cells):
    """The state with each old block in the cell of its number and nothing of worth in the others."""
    check_recipe(recipe)
    check_cells(recipe, cells)
    return [("old", block) for block in range(recipe.many())] + [None] * (cells - recipe.many())


def is_made(recipe, state):
    """Whether each new block lies in its own cell."""
    return not lacking(recipe, state)


def why_wrong(recipe, state, deed):
    """The ascending list of all that is wrong with a deed in a state."""
    _check_state(recipe, state)
    if not is_deed(recipe, len(state), deed):
        raise InvalidDeed(deed)
    return wrongs_of(recipe, state, deed)


def behind(recipe, state, deed):
    """The state behind a deed that is right."""
    if why_wrong(recipe, state, deed):
        raise Refused(deed)
    return state_behind(state, deed)


def is_course(recipe, cells, value):
    """Whether any object is a course on so many cells."""
    check_recipe(recipe)
    check_cells(recipe, cells)
    return are_deeds(recipe, cells, value)


def first_wrong(recipe, cells, course):
    """The position of the first deed of a course that is not right, None if it is right."""
    check_course(recipe, cells, course)
    last = len(right_states(recipe, first_state(recipe, cells), course)) - 1
    return None if last == len(course) else last


def states(recipe, cells, course):
    """The list of the states ahead of each deed of a right course and behind the last one."""
    if first_wrong(recipe, cells, course) is not None:
        raise Refused(course)
    return right_states(recipe, first_state(recipe, cells), course)


def makes_image(recipe, cells, course):
    """Whether a course is right and the state behind it is made."""
    return first_wrong(recipe, cells, course) is None and is_made(recipe, states(recipe, cells, course)[-1])


def lacking(recipe, state):
    """The ascending list of the new blocks that do not lie in their own cells."""
    _check_state(recipe, state)
    # A slice is empty where the state has no such cell.
    return [block for block in range(recipe.size()) if state[block:block + 1] != [("new", block)]]


def lost(recipe, state):
    """The ascending list of the new blocks that lie in no cell and can be made no more."""
    _check_state(recipe, state)
    found = []
    for block, row in enumerate(recipe.needs()):
        if ("new", block) not in state and any([("old", old) not in state for old in row]):
            found.append(block)
    return found


def lots_passed(recipe, cells, course):
    """The lots of the new blocks in the cells, ahead of each deed but for the cell that it writes, and at the end."""
    ahead = states(recipe, cells, course)
    passed = [new_in(but_for(state, deed[2])) for state, deed in zip(ahead, course)]
    return passed + [new_in(ahead[-1])]


def busiest(recipe, cells, course):
    """The greatest number that the lots that a right course passes hold, but for the last one."""
    return max([held(recipe, lot) for lot in lots_passed(recipe, cells, course)[:-1]], default=0)


def check_course(recipe, cells, course):
    """Raise what is to be raised unless there are a recipe, a number of cells and a course on them."""
    if not is_course(recipe, cells, course):
        raise InvalidCourse(course)


def _check_state(recipe, state):
    """Raise what is to be raised unless there are a recipe and a state of it."""
    if not is_state(recipe, state):
        raise InvalidContent(state)
