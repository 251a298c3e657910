"""Near blocks: images whose blocks need none but those near their own place."""
from sparecells.checks import check_count_from
from sparecells.orders import is_order, prices, width_of
from sparecells.recipes import Recipe


def window(size, before, after):
    """The recipe whose blocks need the old ones from so many before their own place to so many after it."""
    _check_window(size, before, after)
    return Recipe(size, [list(range(max(0, at - before), min(size, at + after + 1))) for at in range(size)])


def window_width(size, before, after):
    """The width of a window, whatever its size."""
    _check_window(size, before, after)
    return size + min(before, after, size - 1)


def window_order(size, before, after):
    """An order of a window's width."""
    _check_window(size, before, after)
    # Made from the end of the shorter reach on, each block lets an old one go as soon as that reach is filled.
    order = list(range(size))
    return order if before <= after else order[::-1]


def window_prices(size, before, after, order):
    """The prices of an order of a window."""
    return prices(window(size, before, after), order)


def is_window_order(size, before, after, value):
    """Whether any object is an order of a window's width."""
    recipe = window(size, before, after)
    return is_order(recipe, value) and width_of(recipe, value) == window_width(size, before, after)


def _check_window(size, before, after):
    """Raise what is to be raised unless there are a size and two reaches."""
    check_count_from(size, 1)
    check_count_from(before, 0)
    check_count_from(after, 0)
