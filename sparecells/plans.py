"""Plans: courses that make the image wherever the power falls, and the copies that lead things to their cells."""
from sparecells.checks import are_different_below, check_order, check_some_cells, is_count_below
from sparecells.courses import first_state, is_made
from sparecells.deeds import are_deeds, new_in, right_states, state_behind
from sparecells.errors import InvalidOrder, Refused
from sparecells.lots import needed
from sparecells.masks import all_held, lacking_blocks, lot_of, mask_of, with_block
from sparecells.orders import least_cells, widths_on, width_of
from sparecells.recipes import check_recipe, needs_of


def can_be(recipe, cells):
    """Whether some course makes the image in so many cells wherever the power falls."""
    check_recipe(recipe)
    check_some_cells(cells)
    return cells >= least_cells(recipe)


def plan(recipe, cells):
    """A right course, not too long, that makes the image."""
    if not can_be(recipe, cells):
        raise Refused(cells)
    return plan_from(recipe, first_state(recipe, cells), [])


def is_plan(recipe, cells, value):
    """Whether any object is a right course, not too long, that makes the image."""
    check_recipe(recipe)
    check_some_cells(cells)
    return cells >= recipe.many() and is_plan_from(recipe, first_state(recipe, cells), value)


def ways_from(recipe, state):
    """The ascending list of the lots from which a state can be gone on from: of each all that is used lies there."""
    there = mask_of(new_in(state))
    widths = widths_on(recipe)
    found = []
    for mask, number in enumerate(all_held(recipe)):
        if mask & there == mask and max(number, widths[mask]) < len(state):
            lot = lot_of(mask)
            if all([("old", old) in state for old in needed(recipe, lot)]):
                found.append(lot)
    return sorted(found)


def plan_from(recipe, state, lot):
    """Deeds, not too many, each right, that make the image from a state, gone on from one of the ways from it."""
    cells = len(state)
    road = _road_on(recipe, lot)
    useful = _useful(recipe, state, lot)
    makes = _makes(recipe, useful, road)
    last = []
    if recipe.size() == cells:
        # No cell is spare behind the last make. Its block needs nothing, as all others fill the cells but one.
        makes = makes[:-1]
        last = [("make", road[-1], road[-1])]
    for deed in makes:
        useful = state_behind(useful, deed)
    spots = {content[1]: cell for cell, content in enumerate(useful) if content is not None and content[0] == "new"}
    aims = sorted(spots)
    copies = moves(cells, [spots[block] for block in aims], aims)
    return makes + [("copy", start, cell) for start, cell in copies] + last


def _road_on(recipe, lot):
    """The blocks outside a lot in a sequence of the least width with which it is gone on from."""
    widths = widths_on(recipe)
    mask = mask_of(lot)
    road = []
    while len(lot) + len(road) < recipe.size():
        onward = [(widths[with_block(mask, block)], block) for block in lacking_blocks(mask, recipe.size())]
        road.append(min(onward)[1])
        mask = with_block(mask, road[-1])
    return road


def _useful(recipe, state, lot):
    """The state with each block of a lot, and each old one needed behind it, in one cell alone, and nothing else."""
    useful = [None] * len(state)
    for block in lot:
        # Its own cell, or else one that no other waits for: a plan made anew behind each deed comes to its end, too.
        spots = [(cell != block, cell in lot, cell) for cell, content in enumerate(state) if content == ("new", block)]
        useful[min(spots)[2]] = ("new", block)
    for old in needed(recipe, lot):
        useful[state.index(("old", old))] = ("old", old)
    return useful


def is_plan_from(recipe, state, value):
    """Whether any object is a list of deeds, not too long, each right, from a state to one that is made."""
    cells = len(state)
    if not are_deeds(recipe, cells, value) or len(value) > recipe.size() + 2 * cells:
        return False
    passed = right_states(recipe, state, value)
    return len(passed) > len(value) and is_made(recipe, passed[-1])


def makes_by(recipe, cells, order):
    """The course that makes the blocks of an order one by one, each into the least free cell."""
    _check_cells_and_order(recipe, cells, order)
    if cells < recipe.many() or cells <= width_of(recipe, order):
        raise Refused(order)
    return _makes(recipe, first_state(recipe, cells), order)


def loose_makes(recipe, cells, order):
    """The course that makes the blocks of an order, and writes over what a make reads where no cell is free."""
    _check_cells_and_order(recipe, cells, order)
    if cells < max(recipe.many(), recipe.size(), width_of(recipe, order)):
        raise Refused(order)
    return _makes(recipe, first_state(recipe, cells), order)


def _check_cells_and_order(recipe, cells, order):
    """Raise what is to be raised unless there are a recipe, a number of cells and an order."""
    check_recipe(recipe)
    check_some_cells(cells)
    check_order(recipe, order)


def _makes(recipe, state, road):
    """The makes of blocks one by one, each into the least free cell, or else into the least that it alone needs."""
    course = []
    now = state
    for at, block in enumerate(road):
        # What is free behind the make, and not ahead of it, has an old block that no later one needs.
        free = _free_cells(recipe, now, road[at:]) + _free_cells(recipe, now, road[at + 1:])
        course.append(("make", block, free[0]))
        now = state_behind(now, course[-1])
    return course


def _free_cells(recipe, state, blocks):
    """The ascending list of the cells that have neither a new block nor an old one that some blocks need."""
    busy = {("old", old): True for block in blocks for old in needs_of(recipe, block)}
    free = []
    for cell, content in enumerate(state):
        if content is None or content[0] == "old" and content not in busy:
            free.append(cell)
    return free


def fewest_moves(cells, spots, aims):
    """The least number of copies that lead things from their cells to others."""
    return len(moves(cells, spots, aims))


def moves(cells, spots, aims):
    """Copies, as few as can be, that lead things from their cells to others, each one a start and a cell."""
    _check_moves(cells, spots, aims)
    if not _can_be_led(cells, spots, aims):
        raise Refused(cells)
    now = list(spots)
    found = []
    while now != aims:
        thing, cell = _next_move(now, aims)
        found.append((now[thing], cell))
        now[thing] = cell
    return found


def _next_move(now, aims):
    """Which thing is to be led next, and to which cell."""
    astray = [thing for thing, cell in enumerate(now) if cell != aims[thing]]
    for thing in astray:
        if aims[thing] not in now:
            return thing, aims[thing]
    # Only rings are left, so a cell without a thing is nobody's aim. There is one among so many.
    return astray[0], min([cell for cell in range(len(now) + 1) if cell not in now])


def _check_moves(cells, spots, aims):
    """Raise what is to be raised unless there are cells, things that lie in them, and cells to lead them to."""
    check_some_cells(cells)
    if not are_different_below(spots, cells):
        raise InvalidOrder(spots)
    if not are_different_below(aims, cells) or len(aims) != len(spots):
        raise InvalidOrder(aims)


def _can_be_led(cells, spots, aims):
    """Whether things can be led to their aims: a cell is without a thing, or none is to be led."""
    return len(spots) < cells or spots == aims


def is_moves(cells, spots, aims, value):
    """Whether any object is copies, as few as can be, that lead things from their cells to others."""
    _check_moves(cells, spots, aims)
    if not isinstance(value, list) or not all([_is_move(cells, item) for item in value]):
        return False
    if not _can_be_led(cells, spots, aims) or len(value) != fewest_moves(cells, spots, aims):
        return False
    lying = {cell: thing for thing, cell in enumerate(spots)}
    # A thing that is written over and lies in no other cell is lost for ever, so the end tells of all copies.
    for start, cell in value:
        lying[cell] = lying.get(start, None)
    return all([lying.get(cell, None) == thing for thing, cell in enumerate(aims)])


def _is_move(cells, value):
    """Whether any object is a tuple of two of so many cells."""
    return isinstance(value, tuple) and len(value) == 2 and all([is_count_below(cell, cells) for cell in value])
