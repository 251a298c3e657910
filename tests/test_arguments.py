"""Points [1] to [4] at every function: which error comes first, and what no call changes."""
import copy
import inspect
import unittest

from sparecells import barriers, courses, errors, lots, orders, recipes, rests, straightening
from sparecells.recipes import Recipe
from tests.plain import (
    is_below, is_plain_course, is_plain_deed, is_plain_lot, is_plain_order, is_plain_recipe, is_plain_road,
    is_plain_row, is_plain_state, is_whole)
from tests.support import CHAIN, TREE, ErrorChecks, any_objects, plain_held, plain_lots

# The functions with the parameters of the interface; a parameter's kind stands behind a colon if it is not its name.
INTERFACE = {
    recipes: [
        "needs_of recipe block:new", "users_of recipe block:old", "used recipe", "idle recipe",
        "beside one:recipe other:recipe", "without recipe lot", "renumbered recipe order", "turned recipe",
    ],
    lots: [
        "is_lot recipe value", "needed recipe lot", "held recipe lot", "gain recipe one:lot other:lot",
        "floors recipe", "floor_lots recipe size", "low_lots recipe bound", "least_lots recipe",
    ],
    orders: [
        "is_order recipe value", "prices recipe order", "width_of recipe order", "width recipe", "best_order recipe",
        "is_best_order recipe value", "many_within recipe bound", "order_at recipe bound number", "sure_ahead recipe",
        "least_cells recipe", "spare_cells recipe", "full_width recipe", "loose_cells recipe",
        "lasting_cells recipe", "turned_order recipe order",
    ],
    barriers: [
        "is_barrier recipe bound value", "reached recipe bound", "barrier recipe bound", "way_to recipe bound lot",
        "is_way_to recipe bound lot value", "stuck_lots recipe bound", "border recipe bound",
    ],
    rests: [
        "is_rest recipe lot wider", "rests recipe lot", "height recipe lot road", "least_height recipe lot wider",
        "best_road recipe lot wider", "is_best_road recipe lot wider value", "led_through recipe order lot road",
        "is_sink recipe lot", "sinks recipe",
    ],
    straightening: [
        "is_row recipe value", "row_width recipe row", "is_step recipe row value", "loses_nothing recipe row",
        "straightened recipe row", "is_straightened recipe row value", "order_of recipe row",
    ],
    courses: [
        "is_state recipe value", "first_state recipe cells", "is_made recipe state", "why_wrong recipe state deed",
        "behind recipe state deed", "is_course recipe cells value", "first_wrong recipe cells course",
        "states recipe cells course", "makes_image recipe cells course", "lacking recipe state", "lost recipe state",
        "lots_passed recipe cells course", "busiest recipe cells course",
    ],
}
ERRORS = {
    "recipe": errors.InvalidRecipe, "new": errors.InvalidBlock, "old": errors.InvalidBlock, "lot": errors.InvalidLot,
    "order": errors.InvalidOrder, "size": errors.InvalidCount, "bound": errors.InvalidBound,
    "number": errors.InvalidCount, "wider": errors.InvalidLot, "road": errors.InvalidOrder, "row": errors.InvalidRow,
    "cells": errors.InvalidCells, "state": errors.InvalidContent, "deed": errors.InvalidDeed,
    "course": errors.InvalidCourse,
}
# In the first one a block needs nothing and an old block is idle; the last one has no old block.
PAIRS = [(4, [[0, 1], [1, 2], []]), CHAIN, TREE, (1, [[0]]), (0, [[], []])]


def functions():
    for module, rows in INTERFACE.items():
        for row in rows:
            name, *parameters = row.split()
            parts = [(parameter.split(":") * 2)[:2] for parameter in parameters]
            yield getattr(module, name), [part[0] for part in parts], [part[1] for part in parts]


def fits(kind, ahead, thing):
    """Whether an object is of a kind behind the arguments ahead of it, judged apart from the package."""
    if kind == "recipe":
        return is_plain_recipe(thing)
    recipe, last = ahead[0], ahead[-1]
    size = recipe.size()
    judges = {
        "value": lambda: True,
        "new": lambda: is_below(thing, size),
        "old": lambda: is_below(thing, recipe.many()),
        "size": lambda: is_below(thing, size + 1),
        "bound": lambda: is_whole(thing) and thing >= 0,
        "number": lambda: thing == 0 and last >= recipe.many() + size,
        "lot": lambda: is_plain_lot(size, thing),
        "wider": lambda: is_plain_lot(size, thing),
        "order": lambda: is_plain_order(size, thing),
        "road": lambda: is_plain_road(size, last, thing),
        "row": lambda: is_plain_row(size, thing),
        "cells": lambda: is_whole(thing) and thing >= max(1, recipe.many()),
        "state": lambda: is_plain_state(recipe, thing),
        "deed": lambda: is_plain_deed(recipe, len(last), thing),
        "course": lambda: is_plain_course(recipe, last, thing),
    }
    return judges[kind]()


def wrong_things(kind, ahead):
    if kind == "number":
        return [None, True, False, -1, 10 ** 30, "0", [], [0], (0,), {}, ahead[0]]
    return [thing for thing in any_objects() if not fits(kind, ahead, thing)]


def good_things(kind, recipe):
    """Some objects of a kind; some of them are none behind some arguments."""
    many, size = recipe.many(), recipe.size()
    straight = [list(range(at)) for at in range(size + 1)]
    state = [("old", block) for block in range(many)] + [None, ("new", 0)]
    things = {
        "recipe": [recipe], "value": [0], "new": [0], "old": [0], "size": [0, size], "number": [0],
        "bound": [many + size, 10 ** 30, max(many - 1, 0)],
        "lot": [[], list(range(size - 1)), [size - 1][:size - 1]],
        "wider": [list(range(size)), []],
        "order": [list(range(size)), list(range(size))[::-1]],
        "road": [[], list(range(size)), [size - 1]],
        "row": [straight, straight[:2] + straight],
        "cells": [max(1, many), many + 2],
        "state": [state, [None]],
        "deed": [("make", 0, many), ("make", size - 1, 0), ("copy", many + 1, many), ("copy", 0, 0)],
        "course": [[], [("make", 0, many)], [("make", 0, many), ("copy", many, many + 1)], [("copy", 0, 0)]],
    }
    return things[kind]


def good_calls(kinds, recipe):
    calls = [[]]
    for kind in kinds:
        calls = [call + [thing] for call in calls for thing in good_things(kind, recipe) if fits(kind, call, thing)]
    # Each call gets lists of its own, as some are changed by the tests.
    return [copy.deepcopy(call) for call in calls]


def is_refused(function, call):
    try:
        function(*call)
    except errors.Refused:
        return True
    return False


def shown(things):
    """Objects in writing, which tells True from 1; recipes by what they tell."""
    return repr([("recipe", thing.many(), thing.needs()) if type(thing) is Recipe else thing for thing in things])


def spoil(thing):
    """Change every list within a result, deep ones first."""
    if isinstance(thing, (list, tuple)):
        for item in thing:
            spoil(item)
    if isinstance(thing, list):
        thing.append("spoilt")
        thing.reverse()


class InterfaceTest(unittest.TestCase):
    def test_names_arguments_and_places(self):
        for function, names, _ in functions():
            self.assertEqual(list(inspect.signature(function).parameters), names)
        for module, rows in INTERFACE.items():
            for row in rows:
                self.assertEqual(getattr(module, row.split()[0]).__module__, module.__name__)

    def test_recipe_has_its_own_methods(self):
        self.assertEqual(Recipe.__module__, "sparecells.recipes")
        for name in ("__init__", "many", "needs", "size", "__eq__"):
            self.assertIn(name, vars(Recipe))

    def test_arguments_by_name(self):
        for function, names, kinds in functions():
            for pair in PAIRS:
                for call in good_calls(kinds, Recipe(*pair)):
                    if not is_refused(function, call):
                        self.assertEqual(function(**dict(zip(names, call))), function(*call))


class WrongArgumentsTest(ErrorChecks, unittest.TestCase):
    def test_the_first_wrong_argument_is_told(self):
        for function, _, kinds in functions():
            for pair in PAIRS:
                for call in good_calls(kinds, Recipe(*pair))[:1]:
                    for at, kind in enumerate(kinds):
                        self.check_wrong_at(function, kinds, call, at, kind)

    def check_wrong_at(self, function, kinds, call, at, kind):
        if kind == "value":
            return
        before = shown(call)
        for wrong in wrong_things(kind, call[:at]):
            head = call[:at] + [wrong]
            told = shown(head)
            self.assert_error(ERRORS[kind], wrong, function, *head, *call[at + 1:])
            for others in (None, True, [True], (), "0", [[0]], -1):
                self.assert_error(ERRORS[kind], wrong, function, *head, *[others for _ in kinds[at + 1:]])
            self.assertEqual((shown(call), shown(head)), (before, told))

    def test_blocks_at_the_edges(self):
        recipe = Recipe(2, [[0], [1], []])
        self.assertEqual(recipes.needs_of(recipe, 2), [])
        self.assert_error(errors.InvalidBlock, 3, recipes.needs_of, recipe, 3)
        self.assertEqual(recipes.users_of(recipe, 1), [1])
        self.assert_error(errors.InvalidBlock, 2, recipes.users_of, recipe, 2)
        self.assert_error(errors.InvalidBlock, 0, recipes.users_of, Recipe(0, [[]]), 0)

    def test_sizes_at_the_edges(self):
        recipe = Recipe(1, [[0], []])
        self.assertEqual(lots.floor_lots(recipe, 2), [[0, 1]])
        self.assert_error(errors.InvalidCount, 3, lots.floor_lots, recipe, 3)

    def test_lots_and_orders_of_other_recipes(self):
        small = Recipe(1, [[0]])
        for lot in ([1], [0, 1]):
            self.assert_error(errors.InvalidLot, lot, lots.held, small, lot)
            self.assert_error(errors.InvalidLot, lot, recipes.without, small, lot)
        for order in ([], [1], [0, 1], [0, 0]):
            self.assert_error(errors.InvalidOrder, order, orders.width_of, small, order)
            self.assert_error(errors.InvalidOrder, order, recipes.renumbered, small, order)

    def test_the_second_lot_is_told_if_the_first_is_one(self):
        recipe = Recipe(*CHAIN)
        self.assert_error(errors.InvalidLot, (0,), lots.gain, recipe, [0], (0,))
        one, other = [1, 0], [2, 1]
        self.assert_error(errors.InvalidLot, one, lots.gain, recipe, one, other)

    def test_refused_comes_behind_all_others(self):
        bare = Recipe(0, [[], []])
        for order in (None, [0], [0, True], (0, 1)):
            self.assert_error(errors.InvalidOrder, order, orders.turned_order, bare, order)
        self.assert_error(errors.Refused, bare, orders.turned_order, bare, [0, 1])
        for lot in ((0, 1), [1, 0], [0, 1, 1], [False, True]):
            self.assert_error(errors.InvalidLot, lot, recipes.without, bare, lot)

    def test_judges_raise_no_error_for_any_object(self):
        judges = [(function, kinds) for function, names, kinds in functions() if names[-1] == "value"]
        self.assertEqual(len(judges), 3 + 2 + 1 + 3 + 2)
        for judge, kinds in judges:
            for call in [call for pair in PAIRS for call in good_calls(kinds[:-1], Recipe(*pair))]:
                for thing in any_objects():
                    self.assertIs(type(judge(*call, thing)), bool)
                self.assertIs(judge(*call, None), False)


class UnchangedTest(ErrorChecks, unittest.TestCase):
    def test_arguments_stay_and_results_are_new(self):
        checked = set()
        for function, _, kinds in functions():
            for pair in PAIRS:
                for call in good_calls(kinds, Recipe(*pair)):
                    if not is_refused(function, call):
                        self.check_call(function, call)
                        checked.add(function)
        # What is refused here and there is not refused everywhere.
        self.assertEqual(checked, {function for function, _, _ in functions()})

    def check_call(self, function, call):
        before = copy.deepcopy(call)
        result = function(*call)
        self.assertEqual(shown(call), shown(before))
        kept = copy.deepcopy(result)
        again = function(*call)
        self.assertEqual(again, kept)
        spoil(result)
        self.assertEqual(again, kept)
        self.assertEqual(function(*call), kept)
        self.assertEqual(shown(call), shown(before))
        for thing in call[1:]:
            spoil(thing)
        self.assertEqual(again, kept)
        self.assertEqual(function(*before), kept)

    def test_recipes_made_of_others_keep_nothing(self):
        chain = Recipe(*CHAIN)
        lot, order = [0], [2, 0, 1]
        made = [recipes.without(chain, lot), recipes.renumbered(chain, order), recipes.turned(chain)]
        told = [recipe.needs() for recipe in made]
        for thing in (lot, order, chain.needs(), made[0].needs()):
            spoil(thing)
        self.assertEqual([recipe.needs() for recipe in made], told)
        self.assertEqual(chain, Recipe(*CHAIN))

    def test_calls_that_raise_change_nothing(self):
        for function, _, kinds in functions():
            chain = Recipe(*CHAIN)
            for things in ([[0, 0], [1, 0], [0], [2]], [[True], [False], [True], [[]]], [{}, {}, {}, {}]):
                passed = copy.deepcopy(things)[:len(kinds) - 1]
                try:
                    function(chain, *passed)
                except errors.CellsError:
                    pass
                self.assertEqual(repr(passed), repr(things[:len(kinds) - 1]))
                self.assertEqual(chain, Recipe(*CHAIN))


class PlainCountTest(unittest.TestCase):
    def test_the_plain_count_itself(self):
        # What the other tests are measured by, told by hand once.
        self.assertEqual(plain_lots(2), [[], [0], [0, 1], [1]])
        self.assertEqual([plain_held(CHAIN[1], lot) for lot in ([], [0], [2], [0, 1], [0, 1, 2])], [3, 3, 4, 3, 3])
