"""Barriers: lists of lots that show that no order's width is at most a bound."""
from sparecells.checks import are_different_below, check_bound, check_lot
from sparecells.lots import is_lot
from sparecells.masks import all_held, lacking_blocks, lot_of, mask_of, with_block
from sparecells.recipes import check_recipe
from sparecells.rests import best_road, height, least_height


def is_barrier(recipe, bound, value):
    """Whether any object is a barrier within a bound."""
    check_recipe(recipe)
    check_bound(bound)
    if not isinstance(value, list) or not all([_is_lot_lacking_two(recipe, item) for item in value]):
        return False
    table = all_held(recipe)
    masks = [mask_of(lot) for lot in value]
    there = set(masks)
    if len(there) < len(masks) or any([table[mask] > bound for mask in masks]):
        return False
    if table[0] <= bound and 0 not in there:
        return False
    for mask in masks:
        for wider in _onward(recipe, table, bound, mask):
            if wider not in there:
                return False
    return True


def _is_lot_lacking_two(recipe, value):
    """Whether any object is a lot that lacks two blocks or more."""
    return is_lot(recipe, value) and _lacks_two(recipe, value)


def _lacks_two(recipe, lot):
    """Whether a lot lacks two blocks or more."""
    return len(lot) <= recipe.size() - 2


def _onward(recipe, table, bound, mask):
    """The masks of the lots with one block more than a lot that hold at most a bound."""
    wider = [with_block(mask, block) for block in lacking_blocks(mask, recipe.size())]
    return [other for other in wider if table[other] <= bound]


def reached(recipe, bound):
    """The ascending list of the lots that are reached within a bound."""
    check_recipe(recipe)
    check_bound(bound)
    table = all_held(recipe)
    there = [table[0] <= bound] + [False] * (len(table) - 1)
    # A lot's mask is less than those of the lots with more blocks, so each is marked before it is asked.
    for mask in range(len(table)):
        if there[mask]:
            for wider in _onward(recipe, table, bound, mask):
                there[wider] = True
    return sorted([lot_of(mask) for mask in range(len(table) - 1) if there[mask]])


def barrier(recipe, bound):
    """The least barrier within a bound, the lots that are reached, or None if there is none."""
    lots = reached(recipe, bound)
    # From a lot that lacks one block an order within the bound is finished.
    if not all([_lacks_two(recipe, lot) for lot in lots]):
        return None
    return lots


def way_to(recipe, bound, lot):
    """The blocks of a lot in a sequence by which it is reached within a bound, or None if it is not."""
    _check_bound_and_lot(recipe, bound, lot)
    if len(lot) == recipe.size() or least_height(recipe, [], lot) > bound:
        return None
    return best_road(recipe, [], lot)


def is_way_to(recipe, bound, lot, value):
    """Whether any object tells the blocks of a lot in a sequence by which it is reached within a bound."""
    _check_bound_and_lot(recipe, bound, lot)
    if not are_different_below(value, recipe.size()) or sorted(value) != lot:
        return False
    return len(lot) < recipe.size() and height(recipe, [], value) <= bound


def _check_bound_and_lot(recipe, bound, lot):
    """Raise what is to be raised unless there are a recipe, a bound and a lot."""
    check_recipe(recipe)
    check_bound(bound)
    check_lot(recipe, lot)


def stuck_lots(recipe, bound):
    """The ascending list of the lots that are reached, lack two blocks or more, and lead to no lot that is reached."""
    lots = [lot for lot in reached(recipe, bound) if _lacks_two(recipe, lot)]
    table = all_held(recipe)
    return [lot for lot in lots if not _onward(recipe, table, bound, mask_of(lot))]


def border(recipe, bound):
    """The ascending list of the tuples of a reached lot that lacks two blocks or more and a block that is too much."""
    lots = [lot for lot in reached(recipe, bound) if _lacks_two(recipe, lot)]
    table = all_held(recipe)
    found = []
    for lot in lots:
        mask = mask_of(lot)
        for block in lacking_blocks(mask, recipe.size()):
            if table[with_block(mask, block)] > bound:
                found.append((list(lot), block))
    return found
