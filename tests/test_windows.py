"""Points [62] to [64]: ordinary inputs and edges."""
import random
import unittest
from itertools import permutations, product

from sparecells import errors
from sparecells.orders import is_order, prices, width, width_of
from sparecells.recipes import Recipe
from sparecells.windows import is_window_order, window, window_order, window_prices, window_width
from tests.support import ErrorChecks, any_objects, plain_held, plain_orders, plain_width_of


def plain_needs(size, before, after):
    return [[old for old in range(size) if at - before <= old <= at + after] for at in range(size)]


def reaches(size):
    """All reaches from nought to some beyond the size."""
    return product([0, 1, 2, size - 1, size, size + 5], repeat=2)


class WindowTest(unittest.TestCase):
    def test_what_the_blocks_need(self):
        for size in range(1, 10):
            for before, after in reaches(size):
                recipe = window(size, before, after)
                self.assertEqual(recipe, Recipe(size, plain_needs(size, before, after)))
        self.assertEqual(window(1, 0, 0), Recipe(1, [[0]]))
        self.assertEqual(window(3, 0, 0).needs(), [[0], [1], [2]])
        self.assertEqual(window(3, 9, 0).needs(), [[0], [0, 1], [0, 1, 2]])
        self.assertEqual(window(3, 0, 60).needs(), [[0, 1, 2], [1, 2], [2]])

    def test_sixty_blocks(self):
        for before, after in [(0, 0), (3, 2), (60, 60), (0, 60), (59, 1)]:
            recipe = window(60, before, after)
            self.assertEqual((recipe.many(), recipe.needs()), (60, plain_needs(60, before, after)))


class WidthTest(ErrorChecks, unittest.TestCase):
    def test_all_orders_of_small_windows(self):
        for size in range(1, 6):
            for before, after in reaches(size):
                orders = plain_orders(plain_needs(size, before, after))
                least = min(number for _, number in orders)
                self.assertEqual(window_width(size, before, after), least)
                self.assertEqual(least, size + min(before, after, size - 1))
                best = [order for order, number in orders if number == least]
                self.assertIn(window_order(size, before, after), best)
                for order, _ in orders[::5]:
                    self.assertIs(is_window_order(size, before, after, order), order in best)
                    held = [plain_held(plain_needs(size, before, after), order[:at]) for at in range(size)]
                    self.assertEqual(window_prices(size, before, after, order), held)

    def test_windows_of_eight_blocks(self):
        for before, after in reaches(8):
            self.assertEqual(window_width(8, before, after), width(window(8, before, after)))
            order = window_order(8, before, after)
            self.assertEqual(width_of(window(8, before, after), order), window_width(8, before, after))

    def test_windows_of_sixty_blocks(self):
        chance = random.Random(63)
        for before, after in [(0, 0), (3, 2), (2, 3), (60, 60), (59, 59), (58, 60), (0, 60), (30, 29)]:
            needs = plain_needs(60, before, after)
            least = 60 + min(before, after, 59)
            self.assertEqual(window_width(60, before, after), least)
            order = window_order(60, before, after)
            self.assertEqual(plain_width_of(needs, order, {}), least)
            self.assertIs(is_window_order(60, before, after, order), True)
            self.assertEqual(max(window_prices(60, before, after, order)), least)
            other = chance.sample(range(60), 60)
            told = window_prices(60, before, after, other)
            self.assertEqual(told, [plain_held(needs, other[:at]) for at in range(60)])
            self.assertIs(is_window_order(60, before, after, other), max(told) == least)
            for wrong in (order[:-1], order + [60], order[:-1] + order[:1], tuple(order)):
                self.assertIs(is_window_order(60, before, after, wrong), False)
                self.assert_error(errors.InvalidOrder, wrong, window_prices, 60, before, after, wrong)

    def test_sizes_of_thirty_digits(self):
        great = 10 ** 30 - 1
        self.assertEqual(window_width(great, 3, 2), great + 2)
        self.assertEqual(window_width(great, great, great), 2 * great - 1)
        self.assertEqual(window_width(great, great - 7, great - 2), 2 * great - 7)
        self.assertEqual(window_width(1, great, great), 1)
        self.assertEqual(window_width(3, 0, great), 3)

    def test_is_window_order_of_any_object(self):
        for size, before, after in [(1, 0, 0), (2, 1, 0), (2, 0, 1), (3, 1, 1), (3, 0, 2)]:
            orders = plain_orders(plain_needs(size, before, after))
            least = min(number for _, number in orders)
            best = [repr(order) for order, number in orders if number == least]
            for thing in any_objects():
                self.assertIs(is_window_order(size, before, after, thing), repr(thing) in best, repr(thing))
                if not is_order(window(size, before, after), thing):
                    self.assert_error(errors.InvalidOrder, thing, window_prices, size, before, after, thing)

    def test_counts_that_are_none(self):
        calls = [(function, ()) for function in (window, window_width, window_order)]
        calls += [(window_prices, ([0],)), (is_window_order, ([0],))]
        for function, rest in calls:
            for wrong in (-1, True, False, None, "1", [1], (1,), Recipe(1, [[0]])):
                self.assert_error(errors.InvalidCount, wrong, function, wrong, 0, 0, *rest)
                self.assert_error(errors.InvalidCount, wrong, function, 1, wrong, None, *rest)
                self.assert_error(errors.InvalidCount, wrong, function, 1, 0, wrong, *rest)
            self.assert_error(errors.InvalidCount, 0, function, 0, -1, None, *rest)
            function(1, 0, 0, *rest)


class UnchangedTest(unittest.TestCase):
    def test_changing_a_result_changes_no_later_one(self):
        order = [2, 1, 0]
        for told, again in [
                (window_order(3, 1, 0), lambda: window_order(3, 1, 0)),
                (window_prices(3, 1, 0, order), lambda: window_prices(3, 1, 0, order)),
                (window(3, 1, 0).needs(), lambda: window(3, 1, 0).needs())]:
            kept = repr(told)
            told.append(7)
            self.assertEqual(repr(again()), kept)
        self.assertEqual(order, [2, 1, 0])
        self.assertEqual(window_prices(3, 1, 0, order), prices(window(3, 1, 0), order))


class EveryPlaceTest(unittest.TestCase):
    def test_all_orders_of_five_blocks_are_judged(self):
        least = window_width(5, 2, 1)
        for order in map(list, permutations(range(5))):
            right = plain_width_of(plain_needs(5, 2, 1), order, {}) == least
            self.assertIs(is_window_order(5, 2, 1, order), right)
