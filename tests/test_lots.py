"""Points [15] to [18]: ordinary inputs and edges."""
import unittest

from sparecells.lots import floor_lots, floors, gain, held, is_lot, least_lots, low_lots, needed
from sparecells.recipes import Recipe
from tests.support import CHAIN, TREE, any_objects, great_pairs, plain_held, plain_lots, plain_needed, small_pairs


class OneLotTest(unittest.TestCase):
    def test_is_lot_of_any_object(self):
        for many, needs in small_pairs():
            recipe = Recipe(many, needs)
            lots = plain_lots(len(needs))
            for thing in any_objects():
                # Told by their writing, as True equals 1 and Recipe objects equal only each other.
                self.assertIs(is_lot(recipe, thing), repr(thing) in [repr(lot) for lot in lots], repr(thing))
            for lot in lots:
                self.assertIs(is_lot(recipe, lot), True)
                self.assertIs(is_lot(recipe, tuple(lot)), False)
                self.assertIs(is_lot(recipe, lot + [len(needs)]), False)

    def test_needed_and_held(self):
        for many, needs in small_pairs() + great_pairs():
            recipe = Recipe(many, needs)
            for lot in plain_lots(len(needs)):
                self.assertEqual(needed(recipe, lot), plain_needed(needs, lot))
                self.assertEqual(held(recipe, lot), plain_held(needs, lot))

    def test_no_block_and_all_blocks(self):
        for many, needs in small_pairs() + great_pairs():
            recipe = Recipe(many, needs)
            everything = list(range(len(needs)))
            self.assertEqual((needed(recipe, everything), held(recipe, everything)), ([], len(needs)))
            self.assertEqual(held(recipe, []), len({old for row in needs for old in row}))

    def test_idle_old_blocks_are_not_held(self):
        self.assertEqual(held(Recipe(8, [[3], []]), []), 1)
        self.assertEqual(held(Recipe(8, [[], []]), [1]), 1)

    def test_many_old_blocks(self):
        self.assertEqual(held(Recipe(60, [list(range(60)), [0, 59]]), [0]), 3)
        self.assertEqual(needed(Recipe(60, [[16, 40], [0], [8, 33], []]), [1]), [8, 16, 33, 40])

    def test_many_new_blocks(self):
        recipe = Recipe(1, [[0]] + [[] for _ in range(59)])
        self.assertEqual(needed(recipe, list(range(1, 60))), [0])
        self.assertEqual(gain(recipe, [0, 8, 32], [1, 8, 16, 32, 40]), 0)
        self.assertEqual(gain(Recipe(1, recipe.needs()[1:] + [[0]]), [8, 16, 33], [1, 8, 33]), 0)

    def test_gain(self):
        for many, needs in small_pairs():
            recipe = Recipe(many, needs)
            lots = plain_lots(len(needs))
            for one in lots:
                for other in lots[::3]:
                    either = set(one) | set(other)
                    both = set(one) & set(other)
                    more = plain_held(needs, one) + plain_held(needs, other)
                    less = plain_held(needs, either) + plain_held(needs, both)
                    self.assertEqual(gain(recipe, one, other), more - less)
                    self.assertGreaterEqual(gain(recipe, one, other), 0)

    def test_gain_above_nought(self):
        # Behind either one the old block is still needed, behind both it is not.
        self.assertEqual(gain(Recipe(1, [[0], [0]]), [0], [1]), 1)
        self.assertEqual(gain(Recipe(1, [[0], [0]]), [0], [0]), 0)


class AllLotsTest(unittest.TestCase):
    def test_floors_and_floor_lots(self):
        for many, needs in small_pairs() + great_pairs():
            recipe = Recipe(many, needs)
            lots = [(lot, plain_held(needs, lot)) for lot in plain_lots(len(needs))]
            least = []
            for size in range(len(needs) + 1):
                alike = [(lot, number) for lot, number in lots if len(lot) == size]
                least.append(min(number for _, number in alike))
                lowest = [lot for lot, number in alike if number == least[size]]
                self.assertEqual(floor_lots(recipe, size), lowest)
            self.assertEqual(floors(recipe), least)

    def test_low_lots(self):
        for many, needs in small_pairs() + great_pairs()[:2]:
            recipe = Recipe(many, needs)
            lots = [(lot, plain_held(needs, lot)) for lot in plain_lots(len(needs))]
            for bound in range(len(needs) + many + 2):
                self.assertEqual(low_lots(recipe, bound), [lot for lot, number in lots if number <= bound])
            self.assertEqual(low_lots(recipe, 10 ** 30), [lot for lot, _ in lots])

    def test_low_lots_below_the_least(self):
        self.assertEqual(low_lots(Recipe(*CHAIN), 2), [])
        self.assertEqual(low_lots(Recipe(*CHAIN), 3), [[], [0], [0, 1], [0, 1, 2]])
        self.assertEqual(low_lots(Recipe(5, [[], []]), 0), [[]])

    def test_least_lots(self):
        for many, needs in small_pairs() + great_pairs():
            lots = [(lot, plain_held(needs, lot)) for lot in plain_lots(len(needs))]
            least = min(number for _, number in lots)
            lowest = [lot for lot, number in lots if number == least]
            told = least_lots(Recipe(many, needs))
            self.assertIs(type(told), tuple)
            smallest, greatest = told
            self.assertIn(smallest, lowest)
            self.assertIn(greatest, lowest)
            for lot in lowest:
                self.assertLessEqual(set(smallest), set(lot))
                self.assertLessEqual(set(lot), set(greatest))

    def test_examples(self):
        tree = Recipe(*TREE)
        self.assertEqual(floors(tree), [5, 4, 4, 4, 4])
        self.assertEqual(least_lots(tree), ([0], [0, 1, 2, 3]))
        self.assertEqual((needed(Recipe(*CHAIN), [0]), held(Recipe(*CHAIN), [0])), ([1, 2], 3))

    def test_one_block_that_needs_nothing(self):
        recipe = Recipe(0, [[]])
        self.assertEqual((floors(recipe), least_lots(recipe), low_lots(recipe, 0)), ([0, 1], ([], []), [[]]))
        self.assertEqual((floor_lots(recipe, 0), floor_lots(recipe, 1)), ([[]], [[0]]))
