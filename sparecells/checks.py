"""What arguments have to be.

Here a recipe is only asked for its numbers of blocks, never judged: recipes.py
imports this file, so this file cannot import the class Recipe.
"""
from sparecells.errors import InvalidBound, InvalidCell, InvalidCells, InvalidCount, InvalidLot, InvalidOrder


def is_count(value):
    """Whether any object is a count."""
    # Python takes True and False for integers, the package does not.
    return isinstance(value, int) and not isinstance(value, bool) and value >= 0


def is_count_below(value, limit):
    """Whether any object is a count less than a limit."""
    return is_count(value) and value < limit


def is_ascending(value):
    """Whether any object is an ascending list of counts."""
    if not isinstance(value, list):
        return False
    last = -1
    for item in value:
        if not is_count(item) or item <= last:
            return False
        last = item
    return True


def is_ascending_below(value, limit):
    """Whether any object is an ascending list of counts less than a limit."""
    return is_ascending(value) and all([item < limit for item in value])


def are_different_below(value, limit):
    """Whether any object is a list of different counts less than a limit."""
    if not isinstance(value, list):
        return False
    if not all([is_count_below(item, limit) for item in value]):
        return False
    return len(set(value)) == len(value)


def is_each_below_once(value, limit):
    """Whether any object is a list of all counts less than a limit, each once."""
    return are_different_below(value, limit) and len(value) == limit


def check_lot(recipe, lot):
    """Raise InvalidLot unless something is a lot of a recipe."""
    if not is_ascending_below(lot, recipe.size()):
        raise InvalidLot(lot)


def check_order(recipe, order):
    """Raise InvalidOrder unless something is an order of a recipe."""
    if not is_each_below_once(order, recipe.size()):
        raise InvalidOrder(order)


def check_road(recipe, lot, road):
    """Raise InvalidOrder unless something is a list of different new blocks that a lot has not."""
    if not are_different_below(road, recipe.size()) or any([block in lot for block in road]):
        raise InvalidOrder(road)


def check_cells(recipe, cells):
    """Raise InvalidCells unless something is a number of cells that hold the old image, at least one."""
    if not is_count(cells) or cells < max(1, recipe.many()):
        raise InvalidCells(cells)


def check_some_cells(cells):
    """Raise InvalidCells unless something is a number of cells, at least one, whatever they are to hold."""
    if not is_count(cells) or cells < 1:
        raise InvalidCells(cells)


def check_cell(cells, cell):
    """Raise InvalidCell unless something is one of so many cells."""
    if not is_count_below(cell, cells):
        raise InvalidCell(cell)


def check_count_from(value, least):
    """Raise InvalidCount unless something is a count, and at least so great."""
    if not is_count(value) or value < least:
        raise InvalidCount(value)


def check_bound(bound):
    """Raise InvalidBound unless something is a bound."""
    if not is_count(bound):
        raise InvalidBound(bound)
