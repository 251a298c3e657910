"""Lots: the new blocks that are made already, and what has to be held with them."""
from sparecells.checks import check_bound, check_lot, is_ascending_below, is_count_below
from sparecells.errors import InvalidCount
from sparecells.masks import all_held, lot_of, ones
from sparecells.recipes import check_recipe


def is_lot(recipe, value):
    """Whether any object is a lot of a recipe."""
    check_recipe(recipe)
    return is_ascending_below(value, recipe.size())


def needed(recipe, lot):
    """The ascending list of the old blocks that some new block outside a lot needs."""
    check_recipe(recipe)
    check_lot(recipe, lot)
    return sorted({old for block, row in enumerate(recipe.needs()) if block not in lot for old in row})


def held(recipe, lot):
    """How many blocks a lot holds: its own and those that are needed behind it."""
    return len(needed(recipe, lot)) + len(lot)


def gain(recipe, one, other):
    """By how much two lots hold more than what either has and what both have."""
    check_recipe(recipe)
    check_lot(recipe, one)
    check_lot(recipe, other)
    either = either_lot(one, other)
    both = both_lot(one, other)
    return held(recipe, one) + held(recipe, other) - held(recipe, either) - held(recipe, both)


def either_lot(one, other):
    """The lot of the blocks of either of two lots."""
    return sorted(set(one) | set(other))


def both_lot(one, other):
    """The lot of the blocks that both of two lots have."""
    return sorted(set(one) & set(other))


def floors(recipe):
    """The list of the least numbers that lots of 0, 1, .. blocks hold."""
    check_recipe(recipe)
    by_size = [[] for _ in range(recipe.size() + 1)]
    for mask, number in enumerate(all_held(recipe)):
        by_size[ones(mask)].append(number)
    return [min(numbers) for numbers in by_size]


def floor_lots(recipe, size):
    """The ascending list of the lots of a size that hold the least of all of this size."""
    check_recipe(recipe)
    if not is_count_below(size, recipe.size() + 1):
        raise InvalidCount(size)
    table = all_held(recipe)
    masks = [mask for mask in range(len(table)) if ones(mask) == size]
    least = min([table[mask] for mask in masks])
    return sorted([lot_of(mask) for mask in masks if table[mask] == least])


def low_lots(recipe, bound):
    """The ascending list of the lots that hold at most a bound."""
    check_recipe(recipe)
    check_bound(bound)
    return sorted([lot_of(mask) for mask, number in enumerate(all_held(recipe)) if number <= bound])


def least_lots(recipe):
    """The smallest and the greatest of the lots that hold least of all."""
    check_recipe(recipe)
    table = all_held(recipe)
    least = min(table)
    smallest = len(table) - 1
    greatest = 0
    # Lots that hold least stay so when they are cut or joined, so what all share and what any has will do.
    for mask, number in enumerate(table):
        if number == least:
            smallest = smallest & mask
            greatest = greatest | mask
    return lot_of(smallest), lot_of(greatest)
