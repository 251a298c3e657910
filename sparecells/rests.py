"""Rests, roads and sinks: lots to which an order can be led without needing more behind them."""
from sparecells.checks import are_different_below, check_lot, check_order, check_road
from sparecells.errors import Refused
from sparecells.lots import held
from sparecells.masks import all_held, heights_to, lot_of, mask_of, with_block, without_block
from sparecells.recipes import check_recipe


def is_rest(recipe, lot, wider):
    """Whether a lot is around another one and holds at most as many as each lot between them."""
    _check_two(recipe, lot, wider)
    return wider in rests(recipe, lot)


def rests(recipe, lot):
    """The ascending list of all rests of a lot."""
    check_recipe(recipe)
    check_lot(recipe, lot)
    table = all_held(recipe)
    start = mask_of(lot)
    lows = _lows(table, start)
    around = [mask for mask in range(start, len(table)) if mask & start == start]
    return sorted([lot_of(mask) for mask in around if table[mask] == lows[mask]])


def _lows(table, start):
    """The table of the least number that lots between a start and a lot around it hold, both ends, too."""
    lows = list(table)
    for mask in range(start, len(table)):
        if mask & start == start:
            narrower = [lows[without_block(mask, block)] for block in lot_of(mask - start)]
            lows[mask] = min([table[mask]] + narrower)
    return lows


def height(recipe, lot, road):
    """The greatest number that the lots on a road hold, both ends, too."""
    check_recipe(recipe)
    check_lot(recipe, lot)
    check_road(recipe, lot, road)
    return max([held(recipe, sorted(lot + road[:at])) for at in range(len(road) + 1)])


def least_height(recipe, lot, wider):
    """The least height of all roads from a lot to one around it."""
    _check_around(recipe, lot, wider)
    return heights_to(all_held(recipe), mask_of(wider))[mask_of(lot)]


def best_road(recipe, lot, wider):
    """A road of the least height from a lot to one around it, the first of them."""
    _check_around(recipe, lot, wider)
    mask = mask_of(lot)
    end = mask_of(wider)
    heights = heights_to(all_held(recipe), end)
    least = heights[mask]
    road = []
    while mask != end:
        # The height of the road still to go is no more than the whole road's, so some block always leads on.
        block = min([block for block in lot_of(end - mask) if heights[with_block(mask, block)] <= least])
        road.append(block)
        mask = with_block(mask, block)
    return road


def is_best_road(recipe, lot, wider, value):
    """Whether any object is a road of the least height from a lot to one around it."""
    _check_two(recipe, lot, wider)
    if not are_different_below(value, recipe.size()) or sorted(lot + value) != wider:
        return False
    return height(recipe, lot, value) == least_height(recipe, lot, wider)


def _check_two(recipe, lot, wider):
    """Raise what is to be raised unless there are a recipe and two lots of it."""
    check_recipe(recipe)
    check_lot(recipe, lot)
    check_lot(recipe, wider)


def _check_around(recipe, lot, wider):
    """Raise what is to be raised unless there are a recipe, a lot and one around it."""
    _check_two(recipe, lot, wider)
    if not all([block in wider for block in lot]):
        raise Refused(wider)


def led_through(recipe, order, lot, road):
    """The order that is led from a lot of its first blocks by a road to a rest, and goes on as it did."""
    check_recipe(recipe)
    check_order(recipe, order)
    check_lot(recipe, lot)
    check_road(recipe, lot, road)
    first = order[:len(lot)]
    if sorted(first) != lot:
        raise Refused(lot)
    if not is_rest(recipe, lot, sorted(lot + road)):
        raise Refused(road)
    return first + road + [block for block in order if block not in first + road]


def is_sink(recipe, lot):
    """Whether a lot holds less than each other lot within it."""
    check_recipe(recipe)
    check_lot(recipe, lot)
    return lot in sinks(recipe)


def sinks(recipe):
    """The ascending list of all sinks."""
    check_recipe(recipe)
    table = all_held(recipe)
    lows = _lows(table, 0)
    found = []
    for mask, number in enumerate(table):
        if all([lows[without_block(mask, block)] > number for block in lot_of(mask)]):
            found.append(lot_of(mask))
    return sorted(found)
