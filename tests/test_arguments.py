"""Points [1] to [4] at every function: which error comes first, and what no call changes."""
import copy
import inspect
import unittest

from sparecells import (
    barriers, besides, courses, cuts, errors, lots, orders, papers, plans, profiles, recipes, rests, scripts,
    straightening, windows)
from sparecells.recipes import Recipe
from tests.plain import (
    are_plain_cells, are_plain_lots, is_below, is_plain_course, is_plain_cuts, is_plain_deed, is_plain_lot,
    is_plain_lots_text, is_plain_order, is_plain_recipe, is_plain_recipe_text, is_plain_road, is_plain_row,
    is_plain_script, is_plain_script_text, is_plain_state, is_whole)
from tests.support import CHAIN, TREE, ErrorChecks, any_objects, plain_held, plain_lots

# The functions with the parameters of the interface; a parameter's kind stands behind a colon if it is not its name.
INTERFACE = {
    recipes: [
        "needs_of recipe block:new", "users_of recipe block:old", "used recipe", "idle recipe",
        "beside one:recipe other:recipe", "without recipe lot", "renumbered recipe order", "turned recipe",
    ],
    lots: [
        "is_lot recipe value", "needed recipe lot", "held recipe lot", "gain recipe one:lot other:lot",
        "floors recipe", "floor_lots recipe size", "low_lots recipe bound", "least_lots recipe",
    ],
    orders: [
        "is_order recipe value", "prices recipe order", "width_of recipe order", "width recipe", "best_order recipe",
        "is_best_order recipe value", "many_within recipe bound", "order_at recipe bound number", "sure_ahead recipe",
        "least_cells recipe", "spare_cells recipe", "full_width recipe", "loose_cells recipe",
        "lasting_cells recipe", "turned_order recipe order",
    ],
    barriers: [
        "is_barrier recipe bound value", "reached recipe bound", "barrier recipe bound", "way_to recipe bound lot",
        "is_way_to recipe bound lot value", "stuck_lots recipe bound", "border recipe bound",
    ],
    rests: [
        "is_rest recipe lot wider", "rests recipe lot", "height recipe lot road", "least_height recipe lot wider",
        "best_road recipe lot wider", "is_best_road recipe lot wider value", "led_through recipe order lot road",
        "is_sink recipe lot", "sinks recipe",
    ],
    straightening: [
        "is_row recipe value", "row_width recipe row", "is_step recipe row value", "loses_nothing recipe row",
        "straightened recipe row", "is_straightened recipe row value", "order_of recipe row",
    ],
    courses: [
        "is_state recipe value", "first_state recipe cells", "is_made recipe state", "why_wrong recipe state deed",
        "behind recipe state deed", "is_course recipe cells value", "first_wrong recipe cells course",
        "states recipe cells course", "makes_image recipe cells course", "lacking recipe state", "lost recipe state",
        "lots_passed recipe cells course", "busiest recipe cells course",
    ],
    cuts: [
        "day recipe cells course cuts", "stands recipe cells course", "many_ends recipe cells course",
        "worst_day recipe cells course", "spoiling recipe cells course", "is_spoiling recipe cells course value",
        "can_lie recipe cells course cell", "sure_cells recipe cells course", "harmless recipe cells course",
    ],
    plans: [
        "can_be recipe cells:some", "plan recipe cells:some", "is_plan recipe cells:some value",
        "makes_by recipe cells:some order", "fewest_moves cells:some spots aims", "moves cells:some spots aims",
        "is_moves cells:some spots aims value", "loose_makes recipe cells:some order",
    ],
    profiles: [
        "down recipe bound", "up recipe bound", "down_lot recipe bound", "up_lot recipe bound",
        "is_down_lot recipe bound value", "is_up_lot recipe bound value", "profile recipe",
        "stand_alike one:recipe other:recipe", "third one:recipe other:recipe",
        "is_third one:recipe other:recipe value", "leading_order recipe", "is_leading_order recipe value",
    ],
    besides: [
        "sunk one:recipe other:recipe bound", "risen one:recipe other:recipe bound",
        "full_width_beside one:recipe other:recipe", "profile_beside one:recipe other:recipe",
        "shuffled one:recipe first:order other:recipe second:order",
        "is_shuffled one:recipe first:order other:recipe second:order value",
            "full_width_of_copies recipe many:positive",
        "copy_step recipe",
    ],
    windows: [
        "window size:positive before:count after:count", "window_width size:positive before:count after:count",
        "window_order size:positive before:count after:count",
        "window_prices size:positive before:count after:count order:straight",
        "is_window_order size:positive before:count after:count value",
    ],
    papers: ["recipe_text recipe", "read_recipe text:recipe_text", "lots_text lots", "read_lots text:lots_text"],
    # What changes a device or returns one has tests of its own.
    scripts: [
        "end_of recipe cells script", "shortened recipe cells script", "script_text script",
        "read_script text:script_text",
    ],
}
ERRORS = {
    "recipe": errors.InvalidRecipe, "new": errors.InvalidBlock, "old": errors.InvalidBlock, "lot": errors.InvalidLot,
    "order": errors.InvalidOrder, "size": errors.InvalidCount, "bound": errors.InvalidBound,
    "number": errors.InvalidCount, "wider": errors.InvalidLot, "road": errors.InvalidOrder, "row": errors.InvalidRow,
    "cells": errors.InvalidCells, "state": errors.InvalidContent, "deed": errors.InvalidDeed,
    "course": errors.InvalidCourse, "cuts": errors.InvalidCuts, "cell": errors.InvalidCell,
    "some": errors.InvalidCells, "spots": errors.InvalidOrder, "aims": errors.InvalidOrder,
    "positive": errors.InvalidCount, "count": errors.InvalidCount, "straight": errors.InvalidOrder,
    "lots": errors.InvalidLots, "recipe_text": errors.InvalidText, "lots_text": errors.InvalidText,
    "script": errors.InvalidScript, "script_text": errors.InvalidText,
}
# In the first one a block needs nothing and an old block is idle; the last one has no old block.
PAIRS = [(4, [[0, 1], [1, 2], []]), CHAIN, TREE, (1, [[0]]), (0, [[], []])]


def functions():
    for module, rows in INTERFACE.items():
        for row in rows:
            name, *parameters = row.split()
            parts = [(parameter.split(":") * 2)[:2] for parameter in parameters]
            yield getattr(module, name), [part[0] for part in parts], [part[1] for part in parts]


def fits(kind, ahead, thing):
    """Whether an object is of a kind behind the arguments ahead of it, judged apart from the package."""
    known = [part for part in ahead if is_plain_recipe(part)]
    # An order is one of the recipe that stands ahead of it.
    recipe = known[-1] if known else Recipe(0, [[]])
    size = recipe.size()
    last = ahead[-1] if ahead else None
    judges = {
        "recipe": lambda: is_plain_recipe(thing),
        "value": lambda: True,
        "new": lambda: is_below(thing, size),
        "old": lambda: is_below(thing, recipe.many()),
        "size": lambda: is_below(thing, size + 1),
        "bound": lambda: is_whole(thing) and thing >= 0,
        "number": lambda: thing == 0 and last >= recipe.many() + size,
        "lot": lambda: is_plain_lot(size, thing),
        "wider": lambda: is_plain_lot(size, thing),
        "order": lambda: is_plain_order(size, thing),
        "road": lambda: is_plain_road(size, last, thing),
        "row": lambda: is_plain_row(size, thing),
        "cells": lambda: is_whole(thing) and thing >= max(1, recipe.many()),
        "state": lambda: is_plain_state(recipe, thing),
        "deed": lambda: is_plain_deed(recipe, len(last), thing),
        "course": lambda: is_plain_course(recipe, last, thing),
        "cuts": lambda: is_plain_cuts(last, thing),
        "cell": lambda: is_below(thing, ahead[1]),
        "some": lambda: is_whole(thing) and thing >= 1,
        "spots": lambda: are_plain_cells(last, thing),
        "aims": lambda: are_plain_cells(ahead[0], thing) and len(thing) == len(last),
        "positive": lambda: is_whole(thing) and thing >= 1,
        "count": lambda: is_whole(thing) and thing >= 0,
        "straight": lambda: is_plain_order(ahead[0], thing),
        "lots": lambda: are_plain_lots(thing),
        "recipe_text": lambda: is_plain_recipe_text(thing),
        "lots_text": lambda: is_plain_lots_text(thing),
        "script": lambda: is_plain_script(thing),
        "script_text": lambda: is_plain_script_text(thing),
    }
    return judges[kind]()


def wrong_things(kind, ahead):
    if kind == "number":
        return [None, True, False, -1, 10 ** 30, "0", [], [0], (0,), {}, ahead[0]]
    return [thing for thing in any_objects() if not fits(kind, ahead, thing)]


def good_things(kind, recipe):
    """Some objects of a kind; some of them are none behind some arguments."""
    many, size = recipe.many(), recipe.size()
    straight = [list(range(at)) for at in range(size + 1)]
    state = [("old", block) for block in range(many)] + [None, ("new", 0)]
    things = {
        "recipe": [recipe], "value": [0], "new": [0], "old": [0], "size": [0, size], "number": [0],
        "bound": [many + size, 10 ** 30, max(many - 1, 0)],
        "lot": [[], list(range(size - 1)), [size - 1][:size - 1]],
        "wider": [list(range(size)), []],
        "order": [list(range(size)), list(range(size))[::-1]],
        "road": [[], list(range(size)), [size - 1]],
        "row": [straight, straight[:2] + straight],
        "cells": [max(1, many), many + 2],
        "state": [state, [None]],
        "deed": [("make", 0, many), ("make", size - 1, 0), ("copy", many + 1, many), ("copy", 0, 0)],
        "course": [[], [("make", 0, many)], [("make", 0, many), ("copy", many, many + 1)], [("copy", 0, 0)]],
        "cuts": [[], [0, 0], [0, 1]],
        "cell": [0, many + 1],
        "some": [1, max(many, size), many + size + 1],
        "spots": [[], [0], [1, 0], [2, 0, 1]],
        "aims": [[], [1], [0], [0, 1], [2, 1], [0, 2, 1]],
        "positive": [1, 3],
        "count": [0, 1, 4],
        "straight": [[0], [1, 0, 2]],
        "lots": [[], [[]], [[0, 7], [], [10 ** 29]]],
        "recipe_text": ["old 0\nneeds", f"old {many}\nneeds\nneeds"],
        "lots_text": ["", "-", "0 7\n-"],
        "script": [[], [("make", 0, many), ("try", [("undo",), ("cut", ("copy", 0, 1))]), ("state",), ("redo",)]],
        "script_text": ["", "undo\ntry\n  ways_on\nend\ncut copy 0 1"],
    }
    return things[kind]


def good_calls(kinds, recipe):
    calls = [[]]
    for kind in kinds:
        calls = [call + [thing] for call in calls for thing in good_things(kind, recipe) if fits(kind, call, thing)]
    # Each call gets lists of its own, as some are changed by the tests.
    return [copy.deepcopy(call) for call in calls]


def is_refused(function, call):
    try:
        function(*call)
    except errors.Refused:
        return True
    return False


def shown(things):
    """Objects in writing, which tells True from 1; recipes by what they tell."""
    return repr([("recipe", thing.many(), thing.needs()) if type(thing) is Recipe else thing for thing in things])


def spoil(thing):
    """Change every list within a result, deep ones first."""
    if isinstance(thing, (list, tuple)):
        for item in thing:
            spoil(item)
    if isinstance(thing, list):
        thing.append("spoilt")
        thing.reverse()


class InterfaceTest(unittest.TestCase):
    def test_names_arguments_and_places(self):
        for function, names, _ in functions():
            self.assertEqual(list(inspect.signature(function).parameters), names)
        for module, rows in INTERFACE.items():
            for row in rows:
                self.assertEqual(getattr(module, row.split()[0]).__module__, module.__name__)

    def test_recipe_has_its_own_methods(self):
        self.assertEqual(Recipe.__module__, "sparecells.recipes")
        for name in ("__init__", "many", "needs", "size", "__eq__"):
            self.assertIn(name, vars(Recipe))

    def test_arguments_by_name(self):
        for function, names, kinds in functions():
            for pair in PAIRS:
                for call in good_calls(kinds, Recipe(*pair)):
                    if not is_refused(function, call):
                        self.assertEqual(function(**dict(zip(names, call))), function(*call))


class WrongArgumentsTest(ErrorChecks, unittest.TestCase):
    def test_the_first_wrong_argument_is_told(self):
        for function, _, kinds in functions():
            for pair in PAIRS:
                for call in good_calls(kinds, Recipe(*pair))[:1]:
                    for at, kind in enumerate(kinds):
                        self.check_wrong_at(function, kinds, call, at, kind)

    def check_wrong_at(self, function, kinds, call, at, kind):
        if kind == "value":
            return
        before = shown(call)
        for wrong in wrong_things(kind, call[:at]):
            head = call[:at] + [wrong]
            told = shown(head)
            self.assert_error(ERRORS[kind], wrong, function, *head, *call[at + 1:])
            for others in (None, True, [True], (), "0", [[0]], -1):
                self.assert_error(ERRORS[kind], wrong, function, *head, *[others for _ in kinds[at + 1:]])
            self.assertEqual((shown(call), shown(head)), (before, told))

    def test_blocks_at_the_edges(self):
        recipe = Recipe(2, [[0], [1], []])
        self.assertEqual(recipes.needs_of(recipe, 2), [])
        self.assert_error(errors.InvalidBlock, 3, recipes.needs_of, recipe, 3)
        self.assertEqual(recipes.users_of(recipe, 1), [1])
        self.assert_error(errors.InvalidBlock, 2, recipes.users_of, recipe, 2)
        self.assert_error(errors.InvalidBlock, 0, recipes.users_of, Recipe(0, [[]]), 0)

    def test_sizes_at_the_edges(self):
        recipe = Recipe(1, [[0], []])
        self.assertEqual(lots.floor_lots(recipe, 2), [[0, 1]])
        self.assert_error(errors.InvalidCount, 3, lots.floor_lots, recipe, 3)

    def test_lots_and_orders_of_other_recipes(self):
        small = Recipe(1, [[0]])
        for lot in ([1], [0, 1]):
            self.assert_error(errors.InvalidLot, lot, lots.held, small, lot)
            self.assert_error(errors.InvalidLot, lot, recipes.without, small, lot)
        for order in ([], [1], [0, 1], [0, 0]):
            self.assert_error(errors.InvalidOrder, order, orders.width_of, small, order)
            self.assert_error(errors.InvalidOrder, order, recipes.renumbered, small, order)

    def test_the_second_lot_is_told_if_the_first_is_one(self):
        recipe = Recipe(*CHAIN)
        self.assert_error(errors.InvalidLot, (0,), lots.gain, recipe, [0], (0,))
        one, other = [1, 0], [2, 1]
        self.assert_error(errors.InvalidLot, one, lots.gain, recipe, one, other)

    def test_refused_comes_behind_all_others(self):
        bare = Recipe(0, [[], []])
        for order in (None, [0], [0, True], (0, 1)):
            self.assert_error(errors.InvalidOrder, order, orders.turned_order, bare, order)
        self.assert_error(errors.Refused, bare, orders.turned_order, bare, [0, 1])
        for lot in ((0, 1), [1, 0], [0, 1, 1], [False, True]):
            self.assert_error(errors.InvalidLot, lot, recipes.without, bare, lot)

    def test_judges_raise_no_error_for_any_object(self):
        judges = [(function, kinds) for function, names, kinds in functions() if names[-1] == "value"]
        self.assertEqual(len(judges), 3 + 2 + 1 + 3 + 2 + 1 + 2 + 4 + 1 + 1)
        for judge, kinds in judges:
            for call in [call for pair in PAIRS for call in good_calls(kinds[:-1], Recipe(*pair))]:
                for thing in any_objects():
                    self.assertIs(type(judge(*call, thing)), bool)
                self.assertIs(judge(*call, None), False)


class UnchangedTest(ErrorChecks, unittest.TestCase):
    def test_arguments_stay_and_results_are_new(self):
        checked = set()
        for function, _, kinds in functions():
            for pair in PAIRS:
                for call in good_calls(kinds, Recipe(*pair)):
                    if not is_refused(function, call):
                        self.check_call(function, call)
                        checked.add(function)
        # What is refused here and there is not refused everywhere.
        self.assertEqual(checked, {function for function, _, _ in functions()})

    def check_call(self, function, call):
        before = copy.deepcopy(call)
        result = function(*call)
        self.assertEqual(shown(call), shown(before))
        kept = copy.deepcopy(result)
        again = function(*call)
        self.assertEqual(again, kept)
        spoil(result)
        self.assertEqual(again, kept)
        self.assertEqual(function(*call), kept)
        self.assertEqual(shown(call), shown(before))
        for thing in call[1:]:
            spoil(thing)
        self.assertEqual(again, kept)
        self.assertEqual(function(*before), kept)

    def test_recipes_made_of_others_keep_nothing(self):
        chain = Recipe(*CHAIN)
        lot, order = [0], [2, 0, 1]
        made = [recipes.without(chain, lot), recipes.renumbered(chain, order), recipes.turned(chain)]
        told = [recipe.needs() for recipe in made]
        for thing in (lot, order, chain.needs(), made[0].needs()):
            spoil(thing)
        self.assertEqual([recipe.needs() for recipe in made], told)
        self.assertEqual(chain, Recipe(*CHAIN))

    def test_calls_that_raise_change_nothing(self):
        for function, _, kinds in functions():
            chain = Recipe(*CHAIN)
            for things in ([[0, 0], [1, 0], [0], [2]], [[True], [False], [True], [[]]], [{}, {}, {}, {}]):
                passed = copy.deepcopy(things)[:len(kinds) - 1]
                try:
                    function(chain, *passed)
                except errors.CellsError:
                    pass
                self.assertEqual(repr(passed), repr(things[:len(kinds) - 1]))
                self.assertEqual(chain, Recipe(*CHAIN))


class PlainCountTest(unittest.TestCase):
    def test_the_plain_count_itself(self):
        # What the other tests are measured by, told by hand once.
        self.assertEqual(plain_lots(2), [[], [0], [0, 1], [1]])
        self.assertEqual([plain_held(CHAIN[1], lot) for lot in ([], [0], [2], [0, 1], [0, 1, 2])], [3, 3, 4, 3, 3])
