"""Profiles: how low the lots of a recipe lead within each bound, which tells what it takes beside every other one."""
from sparecells.checks import check_bound
from sparecells.lots import held, is_lot
from sparecells.masks import all_held, heights_to, lot_of
from sparecells.orders import full_width, is_order, prices
from sparecells.recipes import Recipe, check_recipe
from sparecells.rests import best_road
from sparecells.sinking import full_width_of_two

# How many new blocks, and how many old ones, a third recipe has at most.
_MOST = 8


def down(recipe, bound):
    """The least number that a lot holds to which [] leads within a bound, None if [] holds more."""
    lots = _down_lots(recipe, bound)
    return held(recipe, lots[0]) if lots else None


def up(recipe, bound):
    """The least number that a lot holds to which that of all blocks leads within a bound, None if that holds more."""
    lots = _up_lots(recipe, bound)
    return held(recipe, lots[0]) if lots else None


def down_lot(recipe, bound):
    """The smallest lot to which [] leads within a bound that holds what `down` tells, None if it tells None."""
    lots = _down_lots(recipe, bound)
    return lots[0] if lots else None


def up_lot(recipe, bound):
    """The greatest lot to which that of all blocks leads that holds what `up` tells, None if it tells None."""
    lots = _up_lots(recipe, bound)
    return lots[0] if lots else None


def is_down_lot(recipe, bound, value):
    """Whether any object is a lot to which [] leads within a bound that holds what `down` tells."""
    lots = _down_lots(recipe, bound)
    return is_lot(recipe, value) and value in lots


def is_up_lot(recipe, bound, value):
    """Whether any object is a lot to which that of all blocks leads within a bound that holds what `up` tells."""
    lots = _up_lots(recipe, bound)
    return is_lot(recipe, value) and value in lots


def _down_lots(recipe, bound):
    """All lots that `down` tells of, that within all the others ahead."""
    check_recipe(recipe)
    check_bound(bound)
    table = all_held(recipe)
    # Turned about, the table has each lot at the place of the mask of the other blocks, [] at the last one.
    return [lot_of(len(table) - 1 - mask) for mask in _lowest(table[::-1], bound)]


def _up_lots(recipe, bound):
    """All lots that `up` tells of, that around all the others ahead."""
    check_recipe(recipe)
    check_bound(bound)
    return [lot_of(mask) for mask in _lowest(all_held(recipe), bound)]


def _lowest(table, bound):
    """The masks of those lots that hold least to which the last one leads within a bound, the greatest mask ahead."""
    heights = heights_to(table, len(table) - 1)
    there = [mask for mask in reversed(range(len(table))) if heights[mask] <= bound]
    least = min([table[mask] for mask in there], default=0)
    return [mask for mask in there if table[mask] == least]


def profile(recipe):
    """The steps in which `down` falls as the bound grows, those of `up`, and the full width."""
    check_recipe(recipe)
    table = all_held(recipe)
    return _steps(table[::-1]), _steps(table), full_width(recipe)


def _steps(table):
    """The tuples of a bound and the least that lots hold to which the last one leads, where that falls."""
    steps = []
    # Of lots that are led to at the same bound the one that holds least comes first, so each bound comes once.
    for height, number in sorted(zip(heights_to(table, len(table) - 1), table)):
        if not steps or number < steps[-1][1]:
            steps.append((height, number))
    return steps


def stand_alike(one, other):
    """Whether two recipes have the same full width beside every third one."""
    return profile(one) == profile(other)


def third(one, other):
    """A recipe beside which the full widths of two others differ, None if they stand for one another."""
    if stand_alike(one, other):
        return None
    for size in range(1, _MOST + 1):
        for many in range(1, _MOST + 1):
            steep = Recipe(many, [list(range(many)) for _ in range(size)])
            if is_third(one, other, steep):
                return steep
    return None


def is_third(one, other, value):
    """Whether any object is a recipe, not too great, beside which the full widths of two others differ."""
    check_recipe(one)
    check_recipe(other)
    if not isinstance(value, Recipe) or max(value.many(), value.size()) > _MOST:
        return False
    last = profile(value)
    return full_width_of_two(profile(one), last) != full_width_of_two(profile(other), last)


def leading_order(recipe):
    """An order that sinks and rises as low, and within as low bounds, as the profile tells."""
    downs, ups, _ = profile(recipe)
    # The smallest lots that `down` tells of lie within one another, the greatest ones of `up` around these.
    stops = [down_lot(recipe, step[0]) for step in downs] + [up_lot(recipe, step[0]) for step in reversed(ups)]
    order = []
    for stop in stops + [list(range(recipe.size()))]:
        order = order + best_road(recipe, sorted(order), stop)
    return order


def is_leading_order(recipe, value):
    """Whether any object is an order that sinks and rises as the profile tells."""
    if not is_order(recipe, value):
        return False
    downs, ups, most = profile(recipe)
    holds = prices(recipe, value) + [recipe.size()]
    return max(holds) <= most and _comes_to(holds, downs) and _comes_to(holds[::-1], ups)


def _comes_to(holds, steps):
    """Whether each step's number stands in a list with nothing up to it above the step's bound."""
    return all([number in holds and max(holds[:holds.index(number) + 1]) <= bound for bound, number in steps])
