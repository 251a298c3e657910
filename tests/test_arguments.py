"""Points [1] to [4] at every function: which error comes first, and what no call changes."""
import copy
import inspect
import unittest

from sparecells import errors, lots, orders, recipes
from sparecells.recipes import Recipe
from tests.support import CHAIN, TREE, ErrorChecks, any_objects, plain_held, plain_lots

# The functions with the parameters of the interface; a parameter's kind stands behind a colon if it is not its name.
INTERFACE = {
    recipes: [
        "needs_of recipe block:new", "users_of recipe block:old", "used recipe", "idle recipe",
        "beside one:recipe other:recipe", "without recipe lot", "renumbered recipe order", "turned recipe",
    ],
    lots: [
        "is_lot recipe value", "needed recipe lot", "held recipe lot", "gain recipe one:lot other:lot",
        "floors recipe", "floor_lots recipe size", "low_lots recipe bound", "least_lots recipe",
    ],
    orders: [
        "is_order recipe value", "prices recipe order", "width_of recipe order", "width recipe", "best_order recipe",
        "is_best_order recipe value", "many_within recipe bound", "order_at recipe bound number", "sure_ahead recipe",
        "least_cells recipe", "spare_cells recipe", "full_width recipe", "loose_cells recipe",
        "lasting_cells recipe", "turned_order recipe order",
    ],
}
ERRORS = {
    "recipe": errors.InvalidRecipe, "new": errors.InvalidBlock, "old": errors.InvalidBlock, "lot": errors.InvalidLot,
    "order": errors.InvalidOrder, "size": errors.InvalidCount, "bound": errors.InvalidBound,
    "number": errors.InvalidCount,
}
# In the first one a block needs nothing and an old block is idle; the last one has no old block.
PAIRS = [(4, [[0, 1], [1, 2], []]), CHAIN, TREE, (1, [[0]]), (0, [[], []])]


def functions():
    for module, rows in INTERFACE.items():
        for row in rows:
            name, *parameters = row.split()
            parts = [(parameter.split(":") * 2)[:2] for parameter in parameters]
            yield getattr(module, name), [part[0] for part in parts], [part[1] for part in parts]


def is_whole(thing):
    return type(thing) is int


def fits(kind, recipe, thing):
    """Whether an object is of a kind, judged apart from the package."""
    size = recipe.size()
    if kind == "recipe":
        return type(thing) is Recipe
    if kind in ("lot", "order"):
        if type(thing) is not list or not all(is_whole(item) for item in thing):
            return False
        wanted = list(range(size)) if kind == "order" else [block for block in range(size) if block in thing]
        return (sorted(thing) if kind == "order" else thing) == wanted
    if not is_whole(thing) or thing < 0:
        return False
    limits = {"new": size, "old": recipe.many(), "size": size + 1, "bound": thing + 1}
    return thing < limits[kind]


def wrong_things(kind, recipe):
    if kind == "number":
        return [None, True, False, -1, 10 ** 30, "0", [], [0], (0,), {}, recipe]
    return [thing for thing in any_objects() if not fits(kind, recipe, thing)]


def good_things(kind, recipe):
    size = recipe.size()
    if kind == "recipe":
        return [recipe]
    if kind == "lot":
        return [[], list(range(size - 1)), [size - 1][:size - 1]]
    if kind == "order":
        return [list(range(size)), list(range(size))[::-1]]
    if kind in ("new", "number", "value"):
        return [0]
    if kind == "old":
        return list(range(recipe.many()))[:1]
    return {"size": [0, size], "bound": [recipe.many() + size, 10 ** 30]}[kind]


def good_calls(kinds, recipe):
    calls = [[]]
    for kind in kinds:
        calls = [call + [thing] for call in calls for thing in good_things(kind, recipe)]
    # Each call gets lists of its own, as some are changed by the tests.
    return [copy.deepcopy(call) for call in calls]


def is_refused(function, recipe):
    return recipe.many() == 0 and function in (recipes.turned, orders.turned_order)


def shown(things):
    """Objects in writing, which tells True from 1; recipes by what they tell."""
    return repr([("recipe", thing.many(), thing.needs()) if type(thing) is Recipe else thing for thing in things])


def spoil(thing):
    """Change every list within a result, deep ones first."""
    if isinstance(thing, (list, tuple)):
        for item in thing:
            spoil(item)
    if isinstance(thing, list):
        thing.append("spoilt")
        thing.reverse()


class InterfaceTest(unittest.TestCase):
    def test_names_arguments_and_places(self):
        for function, names, _ in functions():
            self.assertEqual(list(inspect.signature(function).parameters), names)
        for module, rows in INTERFACE.items():
            for row in rows:
                self.assertEqual(getattr(module, row.split()[0]).__module__, module.__name__)

    def test_recipe_has_its_own_methods(self):
        self.assertEqual(Recipe.__module__, "sparecells.recipes")
        for name in ("__init__", "many", "needs", "size", "__eq__"):
            self.assertIn(name, vars(Recipe))

    def test_arguments_by_name(self):
        for function, names, kinds in functions():
            for pair in PAIRS:
                for call in good_calls(kinds, Recipe(*pair)):
                    if not is_refused(function, call[0]):
                        self.assertEqual(function(**dict(zip(names, call))), function(*call))


class WrongArgumentsTest(ErrorChecks, unittest.TestCase):
    def test_the_first_wrong_argument_is_told(self):
        for function, _, kinds in functions():
            for pair in PAIRS:
                for call in good_calls(kinds, Recipe(*pair))[:1]:
                    for at, kind in enumerate(kinds):
                        self.check_wrong_at(function, kinds, call, at, kind)

    def check_wrong_at(self, function, kinds, call, at, kind):
        if kind == "value":
            return
        recipe = call[0]
        for wrong in wrong_things(kind, recipe):
            head = call[:at] + [wrong]
            self.assert_error(ERRORS[kind], wrong, function, *head, *call[at + 1:])
            for others in (None, True, [True], (), "0", [[0]], -1):
                self.assert_error(ERRORS[kind], wrong, function, *head, *[others for _ in kinds[at + 1:]])

    def test_blocks_at_the_edges(self):
        recipe = Recipe(2, [[0], [1], []])
        self.assertEqual(recipes.needs_of(recipe, 2), [])
        self.assert_error(errors.InvalidBlock, 3, recipes.needs_of, recipe, 3)
        self.assertEqual(recipes.users_of(recipe, 1), [1])
        self.assert_error(errors.InvalidBlock, 2, recipes.users_of, recipe, 2)
        self.assert_error(errors.InvalidBlock, 0, recipes.users_of, Recipe(0, [[]]), 0)

    def test_sizes_at_the_edges(self):
        recipe = Recipe(1, [[0], []])
        self.assertEqual(lots.floor_lots(recipe, 2), [[0, 1]])
        self.assert_error(errors.InvalidCount, 3, lots.floor_lots, recipe, 3)

    def test_lots_and_orders_of_other_recipes(self):
        small = Recipe(1, [[0]])
        for lot in ([1], [0, 1]):
            self.assert_error(errors.InvalidLot, lot, lots.held, small, lot)
            self.assert_error(errors.InvalidLot, lot, recipes.without, small, lot)
        for order in ([], [1], [0, 1], [0, 0]):
            self.assert_error(errors.InvalidOrder, order, orders.width_of, small, order)
            self.assert_error(errors.InvalidOrder, order, recipes.renumbered, small, order)

    def test_the_second_lot_is_told_if_the_first_is_one(self):
        recipe = Recipe(*CHAIN)
        self.assert_error(errors.InvalidLot, (0,), lots.gain, recipe, [0], (0,))
        one, other = [1, 0], [2, 1]
        self.assert_error(errors.InvalidLot, one, lots.gain, recipe, one, other)

    def test_refused_comes_behind_all_others(self):
        bare = Recipe(0, [[], []])
        for order in (None, [0], [0, True], (0, 1)):
            self.assert_error(errors.InvalidOrder, order, orders.turned_order, bare, order)
        self.assert_error(errors.Refused, bare, orders.turned_order, bare, [0, 1])
        for lot in ((0, 1), [1, 0], [0, 1, 1], [False, True]):
            self.assert_error(errors.InvalidLot, lot, recipes.without, bare, lot)

    def test_judges_raise_no_error_for_any_object(self):
        for pair in PAIRS:
            recipe = Recipe(*pair)
            for judge in (lots.is_lot, orders.is_order, orders.is_best_order):
                for thing in any_objects():
                    self.assertIs(type(judge(recipe, thing)), bool)
                self.assertIs(judge(recipe, None), False)


class UnchangedTest(ErrorChecks, unittest.TestCase):
    def test_arguments_stay_and_results_are_new(self):
        for function, _, kinds in functions():
            for pair in PAIRS:
                for call in good_calls(kinds, Recipe(*pair)):
                    if not is_refused(function, call[0]):
                        self.check_call(function, call)

    def check_call(self, function, call):
        before = copy.deepcopy(call)
        result = function(*call)
        self.assertEqual(shown(call), shown(before))
        kept = copy.deepcopy(result)
        again = function(*call)
        self.assertEqual(again, kept)
        spoil(result)
        self.assertEqual(again, kept)
        self.assertEqual(function(*call), kept)
        self.assertEqual(shown(call), shown(before))
        for thing in call[1:]:
            spoil(thing)
        self.assertEqual(again, kept)
        self.assertEqual(function(*before), kept)

    def test_recipes_made_of_others_keep_nothing(self):
        chain = Recipe(*CHAIN)
        lot, order = [0], [2, 0, 1]
        made = [recipes.without(chain, lot), recipes.renumbered(chain, order), recipes.turned(chain)]
        told = [recipe.needs() for recipe in made]
        for thing in (lot, order, chain.needs(), made[0].needs()):
            spoil(thing)
        self.assertEqual([recipe.needs() for recipe in made], told)
        self.assertEqual(chain, Recipe(*CHAIN))

    def test_calls_that_raise_change_nothing(self):
        for function, _, kinds in functions():
            chain = Recipe(*CHAIN)
            for things in ([[0, 0], [1, 0]], [[True], [False]], [{}, {}]):
                passed = copy.deepcopy(things)[:len(kinds) - 1]
                try:
                    function(chain, *passed)
                except errors.CellsError:
                    pass
                self.assertEqual(repr(passed), repr(things[:len(kinds) - 1]))
                self.assertEqual(chain, Recipe(*CHAIN))


class PlainCountTest(unittest.TestCase):
    def test_the_plain_count_itself(self):
        # What the other tests are measured by, told by hand once.
        self.assertEqual(plain_lots(2), [[], [0], [0, 1], [1]])
        self.assertEqual([plain_held(CHAIN[1], lot) for lot in ([], [0], [2], [0, 1], [0, 1, 2])], [3, 3, 4, 3, 3])
