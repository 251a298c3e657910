"""Recipes beside one another, told by what each of them is alone: never are the lots of both gone through."""
from sparecells.checks import check_bound, check_count_from, check_order
from sparecells.errors import Refused
from sparecells.orders import is_order, prices, width_of
from sparecells.profiles import is_leading_order, profile
from sparecells.recipes import beside, check_recipe
from sparecells.sinking import full_width_of_two, profile_of_two, sunk_to


def sunk(one, other, bound):
    """What two recipes hold when they have sunk side by side within a bound, None if they hold more at first."""
    return _side_by_side(one, other, bound, 0)


def risen(one, other, bound):
    """What two recipes hold when they have risen side by side, from all blocks on, None if they hold more at first."""
    return _side_by_side(one, other, bound, 1)


def _side_by_side(one, other, bound, place):
    """What two recipes come to within a bound by the steps at a place of their profiles."""
    check_recipe(one)
    check_recipe(other)
    check_bound(bound)
    return sunk_to(profile(one)[place], profile(other)[place], bound)


def full_width_beside(one, other):
    """The full width of two recipes beside one another."""
    return full_width_of_two(profile(one), profile(other))


def profile_beside(one, other):
    """The profile of two recipes beside one another."""
    return profile_of_two(profile(one), profile(other))


def shuffled(one, first, other, second):
    """An order of two recipes beside one another, of at most their full width, made of leading orders of each."""
    _check_two_orders(one, first, other, second)
    if not is_leading_order(one, first):
        raise Refused(first)
    if not is_leading_order(other, second):
        raise Refused(second)
    one_holds = prices(one, first) + [one.size()]
    other_holds = prices(other, second) + [other.size()]
    most = full_width_beside(one, other)
    # For each number of blocks of both that are done a sequence that comes to it within the full width.
    ways = {(0, 0): []}
    for at, number in enumerate(one_holds):
        for place, beyond in enumerate(other_holds):
            if number + beyond > most:
                continue
            if (at - 1, place) in ways:
                ways[(at, place)] = ways[(at - 1, place)] + [first[at - 1]]
            elif (at, place - 1) in ways:
                ways[(at, place)] = ways[(at, place - 1)] + [second[place - 1] + one.size()]
    return ways[(one.size(), other.size())]


def is_shuffled(one, first, other, second, value):
    """Whether any object is an order of both, of at most their full width, made of leading orders of each."""
    _check_two_orders(one, first, other, second)
    both = beside(one, other)
    if not is_leading_order(one, first) or not is_leading_order(other, second) or not is_order(both, value):
        return False
    if [block for block in value if block < one.size()] != first:
        return False
    if [block - one.size() for block in value if block >= one.size()] != second:
        return False
    return width_of(both, value) <= full_width_beside(one, other)


def _check_two_orders(one, first, other, second):
    """Raise what is to be raised unless there are a recipe and an order of it, and another recipe and one of that."""
    check_recipe(one)
    check_order(one, first)
    check_recipe(other)
    check_order(other, second)


def full_width_of_copies(recipe, many):
    """The full width of so many of one recipe beside one another."""
    check_recipe(recipe)
    check_count_from(many, 1)
    alone = profile(recipe)
    step = copy_step(recipe)
    together = alone
    for copies in range(1, many):
        more = profile_of_two(together, alone)
        # Once it has grown by no more than the step, it grows by the step for ever.
        if more[2] - together[2] == step:
            return together[2] + (many - copies) * step
        together = more
    return together[2]


def copy_step(recipe):
    """By how much the full width grows with one more of a recipe, where there are many."""
    downs, ups, _ = profile(recipe)
    return max(downs[0][0], ups[0][0])
