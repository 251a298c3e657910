"""Points [19] to [24]: ordinary inputs and edges."""
import unittest
from itertools import permutations

from sparecells import errors
from sparecells.orders import (
    best_order, full_width, is_best_order, is_order, lasting_cells, least_cells, loose_cells, many_within, order_at,
    prices, spare_cells, sure_ahead, turned_order, width, width_of)
from sparecells.recipes import Recipe, beside, turned
from tests.support import (
    CHAIN, TREE, ErrorChecks, any_objects, great_pairs, plain_held, plain_orders, plain_width_of, small_pairs)


def plain_turned_order(many, needs, order):
    last = {}
    for old in range(many):
        last[old] = max([at for at, block in enumerate(order) if old in needs[block]], default=None)
    away = []
    for at in range(len(order) - 1, -1, -1):
        away += [old for old in range(many) if last[old] == at]
    return away + [old for old in range(many) if last[old] is None]


class OneOrderTest(ErrorChecks, unittest.TestCase):
    def test_is_order_of_any_object(self):
        for many, needs in small_pairs():
            recipe = Recipe(many, needs)
            orders = {repr(list(order)) for order in permutations(range(len(needs)))}
            for thing in any_objects():
                self.assertIs(is_order(recipe, thing), repr(thing) in orders, repr(thing))

    def test_prices_and_width_of(self):
        for many, needs in small_pairs():
            recipe = Recipe(many, needs)
            for order, most in plain_orders(needs):
                told = [plain_held(needs, order[:at]) for at in range(len(needs))]
                self.assertEqual(prices(recipe, order), told)
                self.assertEqual(width_of(recipe, order), most)

    def test_the_lot_of_all_blocks_is_no_price(self):
        recipe = Recipe(0, [[], [], []])
        self.assertEqual((prices(recipe, [2, 0, 1]), width_of(recipe, [2, 0, 1])), ([0, 1, 2], 2))

    def test_turned_order(self):
        for many, needs in small_pairs():
            recipe = Recipe(many, needs)
            for order, most in plain_orders(needs)[::3]:
                if many == 0:
                    self.assert_error(errors.Refused, recipe, turned_order, recipe, order)
                    continue
                about = turned_order(recipe, order)
                self.assertEqual(about, plain_turned_order(many, needs, order))
                cells = max(turned(recipe).many(), width_of(turned(recipe), about) + 1)
                self.assertLessEqual(cells, max(many, most + 1))

    def test_turned_order_with_idle_and_joint_blocks(self):
        self.assertEqual(turned_order(Recipe(5, [[1, 3], [], [4]]), [2, 0, 1]), [1, 3, 4, 0, 2])
        self.assertEqual(turned_order(Recipe(3, [[]]), [0]), [0, 1, 2])


class AllOrdersTest(ErrorChecks, unittest.TestCase):
    def test_width_and_best_order(self):
        for many, needs in small_pairs():
            recipe = Recipe(many, needs)
            orders = plain_orders(needs)
            least = min(most for _, most in orders)
            self.assertEqual(width(recipe), least)
            best = best_order(recipe)
            self.assertIn((best, least), orders)
            for order, most in orders:
                self.assertIs(is_best_order(recipe, order), most == least)

    def test_is_best_order_of_any_object(self):
        for many, needs in small_pairs():
            recipe = Recipe(many, needs)
            orders = plain_orders(needs)
            least = min(most for _, most in orders)
            best = [repr(order) for order, most in orders if most == least]
            for thing in any_objects():
                self.assertIs(is_best_order(recipe, thing), repr(thing) in best, repr(thing))

    def test_many_within_and_order_at(self):
        for many, needs in small_pairs():
            recipe = Recipe(many, needs)
            orders = plain_orders(needs)
            for bound in range(many + len(needs) + 1):
                within = [order for order, most in orders if most <= bound]
                self.assertEqual(many_within(recipe, bound), len(within))
                for number in {0, len(within) // 2, len(within) - 1}:
                    if within:
                        self.assertEqual(order_at(recipe, bound, number), within[number])
                self.assert_error(errors.InvalidCount, len(within), order_at, recipe, bound, len(within))

    def test_each_order_has_its_number(self):
        tree = Recipe(*TREE)
        for bound in (5, 6, 10 ** 29):
            within = [order for order, most in plain_orders(TREE[1]) if most <= bound]
            self.assertEqual([order_at(tree, bound, number) for number in range(len(within))], within)

    def test_bounds_below_and_at_the_width(self):
        for many, needs in small_pairs() + great_pairs():
            recipe = Recipe(many, needs)
            least = width(recipe)
            self.assertGreater(many_within(recipe, least), 0)
            if least > 0:
                self.assertEqual(many_within(recipe, least - 1), 0)
                self.assert_error(errors.InvalidCount, 0, order_at, recipe, least - 1, 0)

    def test_numbers_beyond_the_last(self):
        tree = Recipe(*TREE)
        self.assertEqual(order_at(tree, 5, 8), [1, 3, 0, 2])
        for number in (9, 10 ** 30, -1, True, None):
            self.assert_error(errors.InvalidCount, number, order_at, tree, 5, number)

    def test_sure_ahead(self):
        for many, needs in small_pairs():
            recipe = Recipe(many, needs)
            orders = plain_orders(needs)
            least = min(most for _, most in orders)
            best = [order for order, most in orders if most == least]
            pairs = permutations(range(len(needs)), 2)
            sure = [(one, other) for one, other in pairs if all(o.index(one) < o.index(other) for o in best)]
            self.assertEqual(sure_ahead(recipe), sorted(sure))

    def test_sure_ahead_of_one_block(self):
        self.assertEqual(sure_ahead(Recipe(0, [[]])), [])
        self.assertEqual(sure_ahead(Recipe(3, [[0, 1, 2]])), [])


class CellsTest(unittest.TestCase):
    def check_cells(self, many, needs, least):
        recipe = Recipe(many, needs)
        size = len(needs)
        self.assertEqual(width(recipe), least)
        self.assertEqual(least_cells(recipe), max(many, least + 1))
        self.assertEqual(spare_cells(recipe), max(many, least + 1) - max(many, size))
        self.assertEqual(full_width(recipe), max(least, size))
        self.assertEqual(loose_cells(recipe), max(least, size, many))
        self.assertEqual(lasting_cells(recipe), max(many, max(least, size) + 1))
        self.assertIn(least_cells(recipe) - loose_cells(recipe), (0, 1))

    def test_numbers_of_cells(self):
        for many, needs in small_pairs():
            self.check_cells(many, needs, min(most for _, most in plain_orders(needs)))

    def test_idle_old_blocks_need_cells(self):
        self.check_cells(7, [[0], [1]], 2)
        self.check_cells(1, [[], [], []], 2)

    def test_turned_about_needs_as_many_cells(self):
        for many, needs in small_pairs() + great_pairs():
            if many > 0:
                recipe = Recipe(many, needs)
                self.assertEqual(least_cells(turned(recipe)), least_cells(recipe))


class GreatTest(unittest.TestCase):
    def test_eight_blocks_by_all_orders(self):
        for many, needs in great_pairs()[2:]:
            recipe = Recipe(many, needs)
            memo = {}
            widths = [plain_width_of(needs, order, memo) for order in permutations(range(8))]
            orders = list(permutations(range(8)))
            self.assertEqual(width(recipe), min(widths))
            for bound in range(min(widths) - 1, max(widths) + 1):
                within = [list(order) for order, most in zip(orders, widths) if most <= bound]
                self.assertEqual(many_within(recipe, bound), len(within))
                for number in (0, len(within) // 3, len(within) - 1):
                    if within:
                        self.assertEqual(order_at(recipe, bound, number), within[number])
            self.assertEqual(width_of(recipe, best_order(recipe)), min(widths))
            self.assertIs(is_best_order(recipe, best_order(recipe)), True)

    def test_eight_blocks_by_themselves_and_all_in_all(self):
        apart, joint = [Recipe(*pair) for pair in great_pairs()[:2]]
        self.assertEqual((width(apart), many_within(apart, 8), sure_ahead(apart)), (8, 40320, []))
        self.assertEqual((width(joint), many_within(joint, 14), many_within(joint, 15)), (15, 0, 40320))
        self.assertEqual(order_at(joint, 10 ** 30, 40319), [7, 6, 5, 4, 3, 2, 1, 0])
        self.assertEqual((least_cells(joint), spare_cells(joint), lasting_cells(apart)), (16, 8, 9))

    def test_somewhat_beyond_the_limits(self):
        tree = Recipe(*TREE)
        twice = beside(beside(tree, tree), tree)
        self.assertEqual(width_of(twice, best_order(twice)), width(twice))
        self.assertEqual(width(Recipe(10 ** 30, [[10 ** 29], []])), 1)
