"""Cuts: days on which the power falls amid deeds of a course, right or not, and what that spoils."""
from sparecells.checks import check_cell, is_count_below
from sparecells.courses import check_course, first_state
from sparecells.deeds import state_behind_any, state_cut
from sparecells.errors import InvalidCuts


def day(recipe, cells, course, cuts):
    """The state at the end of a day on which the power falls amid the deeds at some positions."""
    check_course(recipe, cells, course)
    if not _are_cuts(course, cuts):
        raise InvalidCuts(cuts)
    state = first_state(recipe, cells)
    for at, deed in enumerate(course):
        # Falling again amid the same deed changes nothing.
        if at in cuts:
            state = state_cut(state, deed)
        state = state_behind_any(recipe, state, deed)
    return state


def _are_cuts(course, value):
    """Whether any object is a list of positions of deeds, none less than the one ahead of it."""
    if not isinstance(value, list) or not all([is_count_below(item, len(course)) for item in value]):
        return False
    return value == sorted(value)


def stands(recipe, cells, course):
    """Whether all cuts lead to the state that a course leads to without any."""
    # With more cuts each cell has what it had with fewer, or nothing of worth, so the worst day tells of all.
    return worst_day(recipe, cells, course) == day(recipe, cells, course, [])


def many_ends(recipe, cells, course):
    """To how many different states all cuts lead."""
    check_course(recipe, cells, course)
    return len(_fewest_cuts(recipe, cells, course))


def worst_day(recipe, cells, course):
    """The state at the end of the day on which the power falls amid each deed once."""
    check_course(recipe, cells, course)
    return day(recipe, cells, course, list(range(len(course))))


def spoiling(recipe, cells, course):
    """Cuts, as few as can be, that lead to another state than none do, or None if a course stands."""
    whole = tuple(day(recipe, cells, course, []))
    found = [cuts for state, cuts in _fewest_cuts(recipe, cells, course).items() if state != whole]
    return min(found, key=len) if found else None


def _fewest_cuts(recipe, cells, course):
    """For each state that cuts lead to, as a tuple, such cuts, as few as can be."""
    found = {tuple(first_state(recipe, cells)): []}
    for at, deed in enumerate(course):
        later = {}
        for contents, cuts in found.items():
            state = list(contents)
            for ahead, fallen in ((state, cuts), (state_cut(state, deed), cuts + [at])):
                end = tuple(state_behind_any(recipe, ahead, deed))
                if end not in later or len(fallen) < len(later[end]):
                    later[end] = fallen
        found = later
    return found


def is_spoiling(recipe, cells, course, value):
    """Whether any object is cuts, as few as can be, that lead to another state than none do."""
    fewest = spoiling(recipe, cells, course)
    if fewest is None or not _are_cuts(course, value) or len(value) != len(fewest):
        return False
    return day(recipe, cells, course, value) != day(recipe, cells, course, [])


def can_lie(recipe, cells, course, cell):
    """The list of the contents that a cell has at the end by some cuts, None ahead."""
    check_course(recipe, cells, course)
    check_cell(cells, cell)
    whole = day(recipe, cells, course, [])[cell]
    if cell in sure_cells(recipe, cells, course):
        return [whole]
    return [None, whole]


def sure_cells(recipe, cells, course):
    """The ascending list of the cells that have the same at the end by all cuts."""
    whole = day(recipe, cells, course, [])
    worst = worst_day(recipe, cells, course)
    return [cell for cell in range(cells) if whole[cell] == worst[cell]]


def harmless(recipe, cells, course):
    """The ascending list of the positions such that falling there alone changes nothing at the end."""
    whole = day(recipe, cells, course, [])
    return [at for at in range(len(course)) if day(recipe, cells, course, [at]) == whole]
