"""Recipes: from which old blocks each new block is made."""
from sparecells.checks import check_lot, check_order, is_ascending_below, is_count, is_count_below
from sparecells.errors import InvalidBlock, InvalidCount, InvalidNeeds, InvalidRecipe, Refused


class Recipe:
    """The number of the old blocks, and for each new block the old ones that it needs."""

    def __init__(self, many, needs):
        if not is_count(many):
            raise InvalidCount(many)
        if not _are_needs(many, needs):
            raise InvalidNeeds(needs)
        self._many = many
        # Tuples of its own: whatever becomes of the passed lists, a recipe never changes.
        self._needs = tuple([tuple(row) for row in needs])

    def many(self):
        """The number of the old blocks."""
        return self._many

    def needs(self):
        """For each new block the ascending list of the old blocks that it needs."""
        return [list(row) for row in self._needs]

    def size(self):
        """The number of the new blocks."""
        return len(self._needs)

    def __eq__(self, other):
        return isinstance(other, Recipe) and self._many == other._many and self._needs == other._needs


def _are_needs(many, needs):
    """Whether any object tells what new blocks need of so many old ones."""
    if not isinstance(needs, list) or len(needs) == 0:
        return False
    return all([is_ascending_below(row, many) for row in needs])


def check_recipe(recipe):
    """Raise InvalidRecipe unless something is a recipe."""
    if not isinstance(recipe, Recipe):
        raise InvalidRecipe(recipe)


def needs_of(recipe, block):
    """The ascending list of the old blocks that a new block needs."""
    check_recipe(recipe)
    if not is_count_below(block, recipe.size()):
        raise InvalidBlock(block)
    return recipe.needs()[block]


def users_of(recipe, block):
    """The ascending list of the new blocks that need an old one."""
    check_recipe(recipe)
    if not is_count_below(block, recipe.many()):
        raise InvalidBlock(block)
    return [user for user, row in enumerate(recipe.needs()) if block in row]


def used(recipe):
    """The ascending list of the old blocks that some new block needs."""
    check_recipe(recipe)
    return sorted({block for row in recipe.needs() for block in row})


def idle(recipe):
    """The ascending list of the old blocks that no new block needs."""
    check_recipe(recipe)
    busy = used(recipe)
    return [block for block in range(recipe.many()) if block not in busy]


def beside(one, other):
    """The recipe of two beside one another, the blocks of the other behind those of the one."""
    check_recipe(one)
    check_recipe(other)
    shifted = [[block + one.many() for block in row] for row in other.needs()]
    return Recipe(one.many() + other.many(), one.needs() + shifted)


def without(recipe, lot):
    """The recipe, of the same old blocks, of the new blocks outside a lot."""
    check_recipe(recipe)
    check_lot(recipe, lot)
    rows = [row for block, row in enumerate(recipe.needs()) if block not in lot]
    if not rows:
        raise Refused(lot)
    return Recipe(recipe.many(), rows)


def renumbered(recipe, order):
    """The recipe whose new blocks are those of an order, one behind the other."""
    check_recipe(recipe)
    check_order(recipe, order)
    rows = recipe.needs()
    return Recipe(recipe.many(), [rows[block] for block in order])


def turned(recipe):
    """The recipe turned about: the old blocks are made, each of the new ones that needed it."""
    check_recipe(recipe)
    if recipe.many() == 0:
        raise Refused(recipe)
    return Recipe(recipe.size(), [users_of(recipe, block) for block in range(recipe.many())])
