"""Orders of making, their widths, and the numbers of cells that follow from them."""
from sparecells.checks import check_bound, check_order, is_count_below, is_each_below_once
from sparecells.errors import InvalidCount, Refused
from sparecells.lots import held
from sparecells.masks import all_held, has, heights_to, lacking_blocks, with_block
from sparecells.recipes import check_recipe, users_of


def is_order(recipe, value):
    """Whether any object is an order of a recipe."""
    check_recipe(recipe)
    return is_each_below_once(value, recipe.size())


def prices(recipe, order):
    """The list of what the lots of the first 0, 1, .. blocks of an order hold, without the last."""
    check_recipe(recipe)
    check_order(recipe, order)
    return [held(recipe, sorted(order[:at])) for at in range(len(order))]


def width_of(recipe, order):
    """The width of an order, the greatest of its prices."""
    return max(prices(recipe, order))


def width(recipe):
    """The width of a recipe, the least of all its orders' widths."""
    check_recipe(recipe)
    return widths_on(recipe)[0]


def widths_on(recipe):
    """The table of the least widths with which lots are gone on from, 0 for that of all blocks."""
    table = all_held(recipe)
    # What the lot of all blocks holds is no price of an order.
    return heights_to(table[:-1] + [0], len(table) - 1)


def best_order(recipe):
    """An order of the recipe's width, the first of them."""
    return order_at(recipe, width(recipe), 0)


def is_best_order(recipe, value):
    """Whether any object is an order of the recipe's width."""
    return is_order(recipe, value) and width_of(recipe, value) == width(recipe)


def many_within(recipe, bound):
    """How many orders have at most a width."""
    check_recipe(recipe)
    check_bound(bound)
    return _ways_on(recipe, bound)[0]


def order_at(recipe, bound, number):
    """The order with a number among those that have at most a width, ascending."""
    check_recipe(recipe)
    check_bound(bound)
    ways = _ways_on(recipe, bound)
    if not is_count_below(number, ways[0]):
        raise InvalidCount(number)
    order = []
    mask = 0
    left = number
    while len(order) < recipe.size():
        for block in lacking_blocks(mask, recipe.size()):
            many = ways[with_block(mask, block)]
            if left < many:
                break
            left = left - many
        order.append(block)
        mask = with_block(mask, block)
    return order


def _ways_on(recipe, bound):
    """For each lot in how many sequences it is gone on from, each lot but that of all blocks within the bound."""
    table = all_held(recipe)
    ways = [0] * (len(table) - 1) + [1]
    for mask in reversed(range(len(table) - 1)):
        if table[mask] <= bound:
            ways[mask] = sum([ways[with_block(mask, block)] for block in lacking_blocks(mask, recipe.size())])
    return ways


def sure_ahead(recipe):
    """The ascending list of the pairs of which the one is ahead of the other in every order of the recipe's width."""
    check_recipe(recipe)
    size = recipe.size()
    masks = _passed(_ways_on(recipe, width(recipe)), size)
    shared = [_shared(masks, block) for block in range(size)]
    return [(one, other) for one in range(size) for other in range(size) if one != other and has(shared[other], one)]


def _passed(ways, size):
    """The masks of the lots that the orders pass of which the ways on tell, that of all blocks, too."""
    passed = [True] + [False] * (len(ways) - 1)
    for mask in range(len(ways)):
        if passed[mask]:
            for block in lacking_blocks(mask, size):
                wider = with_block(mask, block)
                if ways[wider] > 0:
                    passed[wider] = True
    return [mask for mask in range(len(ways)) if passed[mask]]


def _shared(masks, block):
    """The mask of the blocks that all lots have that have a block; the last of the masks is that of all blocks."""
    shared = masks[-1]
    for mask in masks:
        if has(mask, block):
            shared = shared & mask
    return shared


def least_cells(recipe):
    """The least number of cells with which the image can be made wherever the power falls."""
    check_recipe(recipe)
    return max(recipe.many(), width(recipe) + 1)


def spare_cells(recipe):
    """By how much the least number of cells is above the greater image's number of blocks."""
    check_recipe(recipe)
    return least_cells(recipe) - max(recipe.many(), recipe.size())


def full_width(recipe):
    """The greater of the width and the number of new blocks."""
    check_recipe(recipe)
    return max(width(recipe), recipe.size())


def loose_cells(recipe):
    """The least number of cells if a cell may be written that is read, without cuts, and blocks may lie anywhere."""
    check_recipe(recipe)
    return max(full_width(recipe), recipe.many())


def lasting_cells(recipe):
    """The least number of cells wherever the power falls, with a cell beyond the image's at the end."""
    check_recipe(recipe)
    return max(recipe.many(), full_width(recipe) + 1)


def turned_order(recipe, order):
    """The order of the recipe turned about: the old blocks let go last ahead, idle ones at the end."""
    check_recipe(recipe)
    check_order(recipe, order)
    if recipe.many() == 0:
        raise Refused(recipe)
    # An idle block is let go at place -1, ahead of all others, so it stands at the end.
    lets = [max([order.index(user) for user in users_of(recipe, old)], default=-1) for old in range(recipe.many())]
    ranks = sorted([(-place, block) for block, place in enumerate(lets)])
    return [rank[1] for rank in ranks]
