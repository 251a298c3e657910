"""Rows of lots, made straight step by step till they lose nothing and tell an order."""
from sparecells.errors import InvalidRow, Refused
from sparecells.lots import both_lot, either_lot, held, is_lot
from sparecells.recipes import check_recipe


def is_row(recipe, value):
    """Whether any object is a row of lots."""
    check_recipe(recipe)
    if not isinstance(value, list) or len(value) == 0 or not all([is_lot(recipe, item) for item in value]):
        return False
    if value[0] != [] or len(value[-1]) != recipe.size():
        return False
    return all([len(_gained(value, at)) <= 1 for at in range(1, len(value))])


def _gained(row, at):
    """The blocks of the lot at a place of a row that the one ahead of it has not."""
    return [block for block in row[at] if block not in row[at - 1]]


def row_width(recipe, row):
    """The greatest number that the lots of a row but the last one hold."""
    _check_row(recipe, row)
    return max([held(recipe, lot) for lot in row[:-1]])


def is_step(recipe, row, value):
    """Whether any object is a row that comes of a row by one step."""
    _check_row(recipe, row)
    if not is_row(recipe, value) or len(value) != len(row):
        return False
    changed = [at for at in range(len(row)) if value[at] != row[at]]
    return len(changed) == 1 and _is_exchanged(recipe, row, changed[0], value[changed[0]])


def _is_exchanged(recipe, row, at, lot):
    """Whether a step exchanges the lot at a place of a row, neither the first nor the last, for another one."""
    more = held(recipe, lot) - held(recipe, row[at])
    # Where a lot lies within the next one neither exchange changes a lot, so that need not be asked.
    if lot == either_lot(row[at - 1], row[at]):
        return more < 0
    return lot == both_lot(row[at], row[at + 1]) and more <= 0


def loses_nothing(recipe, row):
    """Whether each lot of a row lies within the next one."""
    _check_row(recipe, row)
    return not _losses(row)


def _losses(row):
    """The places of the lots of a row that do not lie within the next one."""
    return [at for at in range(len(row) - 1) if both_lot(row[at], row[at + 1]) != row[at]]


def straightened(recipe, row):
    """The list of rows from a row, each by a step from the one ahead, to one that loses nothing."""
    _check_row(recipe, row)
    rows = [[list(lot) for lot in row]]
    while _losses(rows[-1]):
        rows.append(_stepped(recipe, rows[-1]))
    return rows


def _stepped(recipe, row):
    """The row that comes of one that loses something by a step at its first loss."""
    at = _losses(row)[0]
    changed = [list(lot) for lot in row]
    either = either_lot(row[at], row[at + 1])
    if held(recipe, either) < held(recipe, row[at + 1]):
        changed[at + 1] = either
    else:
        # Either lot and both hold no more than the two lots together, so here the other step can be done.
        changed[at] = both_lot(row[at], row[at + 1])
    return changed


def is_straightened(recipe, row, value):
    """Whether any object is a list of rows from a row, each by a step from the one ahead, to one that loses nothing."""
    _check_row(recipe, row)
    if not isinstance(value, list) or not all([is_row(recipe, item) for item in value]):
        return False
    if value[:1] != [row] or _losses(value[-1]):
        return False
    return all([is_step(recipe, value[at], value[at + 1]) for at in range(len(value) - 1)])


def order_of(recipe, row):
    """The blocks in the sequence in which a row that loses nothing gains them."""
    if not loses_nothing(recipe, row):
        raise Refused(row)
    return [block for at in range(1, len(row)) for block in _gained(row, at)]


def _check_row(recipe, row):
    """Raise what is to be raised unless there are a recipe and a row of lots of it."""
    if not is_row(recipe, row):
        raise InvalidRow(row)
