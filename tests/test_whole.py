"""The whole program: what its parts tell of one recipe goes together, whatever was asked and changed between."""
import random
import unittest

from sparecells import (
    barriers, besides, courses, cuts, lots, orders, papers, plans, profiles, recipes, rests, scripts, straightening,
    windows)
from sparecells.device import Device, replayed
from sparecells.recipes import Recipe
from tests.support import CHAIN, TREE, great_pairs, small_pairs, some_needs
from tests.test_arguments import shown, spoil
from tests.test_courses import SWAP
from tests.test_profiles import STEEP


def some_recipes():
    chance = random.Random(100)
    pairs = small_pairs()[::3] + great_pairs() + [(8, some_needs(chance, 8, 8)) for _ in range(10)]
    return [Recipe(*pair) for pair in pairs + [SWAP, STEEP, CHAIN, TREE]]


class WidthTest(unittest.TestCase):
    def test_orders_barriers_and_rows(self):
        for recipe in some_recipes():
            width = orders.width(recipe)
            self.assertEqual(orders.width_of(recipe, orders.best_order(recipe)), width)
            for bound in range(max(0, width - 2), width + 2):
                self.assertEqual(barriers.barrier(recipe, bound) is None, bound >= width)
                self.assertEqual(orders.many_within(recipe, bound) > 0, bound >= width)
            everything = list(range(recipe.size()))
            road = rests.best_road(recipe, [], everything)
            self.assertEqual(rests.height(recipe, [], road), orders.full_width(recipe))

    def test_cells_plans_and_rows(self):
        for recipe in some_recipes():
            cells = orders.least_cells(recipe)
            self.assertEqual([plans.can_be(recipe, many) for many in (cells - 1 or cells, cells)][-1], True)
            self.assertFalse(cells > 1 and plans.can_be(recipe, cells - 1))
            course = plans.plan(recipe, cells)
            self.assertTrue(courses.makes_image(recipe, cells, course))
            row = courses.lots_passed(recipe, cells, course)
            self.assertTrue(straightening.is_row(recipe, row))
            self.assertLess(straightening.row_width(recipe, row), cells)
            order = straightening.order_of(recipe, straightening.straightened(recipe, row)[-1])
            self.assertLessEqual(orders.width_of(recipe, order), straightening.row_width(recipe, row))
            self.assertGreaterEqual(courses.busiest(recipe, cells, course), orders.width(recipe))
            if len(course) <= 12:
                self.assertTrue(cuts.stands(recipe, cells, course))

    def test_profiles(self):
        for recipe in some_recipes():
            downs, ups, most = profiles.profile(recipe)
            self.assertEqual(most, orders.full_width(recipe))
            least = min(lots.floors(recipe))
            self.assertEqual((downs[-1][1], ups[-1][1]), (least, least))
            self.assertLessEqual(max(downs[-1][0], ups[-1][0]), most)
            order = profiles.leading_order(recipe)
            self.assertLessEqual(orders.width_of(recipe, order), most)
            self.assertEqual(besides.full_width_of_copies(recipe, 1), most)
            self.assertEqual(profiles.profile(besides.beside(recipe, recipe)) if recipe.size() < 5 else None,
                             besides.profile_beside(recipe, recipe) if recipe.size() < 5 else None)

    def test_devices(self):
        for recipe in some_recipes():
            cells = orders.least_cells(recipe)
            for many in {max(1, recipe.many()), max(1, cells - 1), cells}:
                if recipe.many() <= many <= 10:
                    device = Device(recipe, many)
                    self.assertEqual(device.can_finish(), many >= cells)
                    self.assertEqual([] in device.ways_on(), many > orders.width(recipe))
            if cells <= 10:
                device = Device(recipe, cells)
                for word, source, cell in device.plan_on():
                    device.make(source, cell) if word == "make" else device.lead(source, cell)
                self.assertTrue(device.is_done())
                self.assertEqual(replayed(Device(recipe, cells), device.record()).state(), device.state())
                text = scripts.script_text(device.record())
                self.assertEqual(scripts.end_of(recipe, cells, scripts.read_script(text)), device.state())

    def test_windows(self):
        for size in range(1, 9):
            for before, after in [(0, 0), (1, 0), (1, 2), (3, 3), (9, 9)]:
                recipe = windows.window(size, before, after)
                self.assertEqual(orders.width(recipe), windows.window_width(size, before, after))
                self.assertEqual(orders.least_cells(recipe), windows.window_width(size, before, after) + 1)

    def test_near_orders_of_a_window_are_no_narrower_than_a_barrier_lets(self):
        recipe = windows.window(6, 2, 1)
        self.assertIsNotNone(barriers.barrier(recipe, windows.window_width(6, 2, 1) - 1))
        self.assertIsNone(barriers.barrier(recipe, windows.window_width(6, 2, 1)))


def questions(recipe):
    """Questions of one recipe, each a function and its arguments, whose lists are new each time."""
    size, many = recipe.size(), recipe.many()
    everything = list(range(size))
    cells = orders.least_cells(recipe)
    course = [("make", 0, cells - 1), ("copy", cells - 1, cells - 1), ("copy", cells - 1, 0)]
    bound = many + size
    asked = [(recipes.used, []), (recipes.idle, []), (lots.floors, []), (lots.least_lots, []), (lots.low_lots, [bound])]
    asked += [(orders.width, []), (orders.best_order, []), (orders.sure_ahead, []), (orders.prices, [everything])]
    asked += [(barriers.reached, [bound]), (barriers.border, [size]), (barriers.way_to, [bound, everything[1:]])]
    asked += [(rests.rests, [[]]), (rests.sinks, []), (rests.best_road, [[], everything]), (plans.plan, [cells])]
    asked += [(straightening.straightened, [[[], [0], [], *[everything[:at] for at in range(1, size + 1)]]])]
    asked += [(courses.first_state, [cells]), (cuts.day, [cells, course, [0, 1]]), (cuts.worst_day, [cells, course])]
    asked += [(cuts.spoiling, [cells, course]), (cuts.can_lie, [cells, course, 0]), (cuts.harmless, [cells, course])]
    asked += [(plans.makes_by, [16, everything]), (plans.loose_makes, [16, everything]), (profiles.profile, [])]
    asked += [(profiles.down_lot, [bound]), (profiles.up_lot, [bound]), (profiles.leading_order, [])]
    asked += [(besides.profile_beside, [Recipe(*STEEP)]), (besides.sunk, [Recipe(*SWAP), bound + 4])]
    asked += [(papers.recipe_text, []), (scripts.end_of, [cells, [("make", 0, cells - 1), ("try", [("undo",)])]])]
    asked += [(scripts.shortened, [cells, [("make", 0, cells - 1), ("state",)]]), (device_told, [cells])]
    return asked


def device_told(recipe, cells):
    """What a new device tells behind some commands."""
    device = Device(recipe, cells)
    before = scripts.play(device, [("make", 0, cells - 1), ("try", [("undo",), ("ways_on",)]), ("ways_on",)])
    return [before, device.state(), device.record(), device.ways_on(), device.lacking_there(), device.plan_on()]


class AskedAgainTest(unittest.TestCase):
    def test_the_same_questions_in_another_order(self):
        chance = random.Random(101)
        for pair in [SWAP, STEEP, CHAIN, TREE, (2, [[], [0, 1], []]), great_pairs()[3]]:
            recipe, equal = Recipe(*pair), Recipe(*pair)
            asked = questions(recipe)
            kept = [repr(function(recipe, *rest)) for function, rest in asked]
            for same in (recipe, equal, recipe):
                places = list(range(len(asked)))
                chance.shuffle(places)
                for place in places:
                    function, rest = questions(same)[place]
                    before = shown(rest)
                    told = function(same, *rest)
                    self.assertEqual(repr(told), kept[place], function.__name__)
                    self.assertEqual(shown(rest), before)
                    spoil(told)
                    for thing in rest:
                        spoil(thing)
            self.assertEqual(recipe, equal)
            self.assertEqual((recipe.many(), recipe.needs()), pair)


class ExampleOfAWholeDayTest(unittest.TestCase):
    def test_power_falls_amid_each_deed_and_the_image_is_made_all_the_same(self):
        for recipe in some_recipes():
            cells = orders.least_cells(recipe)
            if cells > 10:
                continue
            device = Device(recipe, cells)
            while not device.is_done():
                deed = device.plan_on()[0]
                # Only the cells are there behind a cut: what is still to be done is told by them alone.
                device.cut(deed)
                word, source, cell = device.plan_on()[0]
                device.make(source, cell) if word == "make" else device.lead(source, cell)
                self.assertLess(device.done(), 60)
