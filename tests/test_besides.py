"""Points [57] to [61]: ordinary inputs and edges."""
import random
import unittest
from itertools import permutations

from sparecells import errors
from sparecells.besides import (
    copy_step, full_width_beside, full_width_of_copies, is_shuffled, profile_beside, risen, shuffled, sunk)
from sparecells.orders import full_width, width_of
from sparecells.profiles import down, is_leading_order, leading_order, profile, up
from sparecells.recipes import Recipe, beside, renumbered
from tests.support import (
    CHAIN, TREE, ErrorChecks, any_objects, every_pair, great_pairs, plain_held, plain_width_of, small_pairs, some_needs)
from tests.test_courses import SWAP
from tests.test_profiles import STEEP, STEPPED


def some_two(number, most=4):
    """Pairs of small recipes, of so many new blocks at most."""
    chance = random.Random(number)
    pairs = [pair for pair in small_pairs() if len(pair[1]) <= most] + [SWAP]
    stepped = [pair for pair in STEPPED if len(pair[1]) <= most]
    kinds = [(pairs, pairs), (stepped, pairs), (stepped, stepped), (pairs, stepped)]
    return [tuple(map(chance.choice, kinds[number % 4])) for number in range(60)] + [(STEEP, STEEP), (STEEP, SWAP)]


def plain_by_turns(one, other, function, start, bound):
    """What two recipes hold when they go by turns, from what they hold at first on, by the words of the document."""
    now = list(start)
    if sum(now) > bound:
        return None
    while True:
        before = list(now)
        now[0] = function(one, bound - now[1])
        now[1] = function(other, bound - now[0])
        if now == before:
            return tuple(now)


def plain_both(one, other):
    """The needs of two recipes beside one another."""
    return one[1] + [[old + one[0] for old in row] for row in other[1]]


class SideBySideTest(unittest.TestCase):
    def test_sunk_and_risen(self):
        for one, other in some_two(57):
            two = (Recipe(*one), Recipe(*other))
            first = [plain_held(one[1], []), plain_held(other[1], [])]
            last = [len(one[1]), len(other[1])]
            for bound in list(range(18)) + [10 ** 29]:
                self.assertEqual(sunk(*two, bound), plain_by_turns(*two, down, first, bound))
                self.assertEqual(risen(*two, bound), plain_by_turns(*two, up, last, bound))

    def test_who_is_first_changes_nothing(self):
        for one, other in some_two(58):
            two = (Recipe(*one), Recipe(*other))
            for bound in range(18):
                for function in (sunk, risen):
                    told = function(*two, bound)
                    self.assertEqual(function(*two[::-1], bound), told and told[::-1])

    def test_both_come_to_what_they_come_to_beside_one_another(self):
        for one, other in some_two(59, 3):
            two = (Recipe(*one), Recipe(*other))
            both = beside(*two)
            for bound in range(16):
                for function, alone in ((sunk, down), (risen, up)):
                    told = function(*two, bound)
                    self.assertEqual(None if told is None else sum(told), alone(both, bound))

    def test_bounds_at_the_edges(self):
        steep, swap = Recipe(*STEEP), Recipe(*SWAP)
        self.assertEqual([sunk(steep, swap, bound) for bound in (0, 4, 5, 6, 60)], [None, None, (3, 2), (2, 2), (2, 2)])
        self.assertEqual([risen(steep, swap, bound) for bound in (3, 4, 10 ** 29)], [None, (2, 2), (2, 2)])
        self.assertEqual(sunk(Recipe(0, [[]]), Recipe(0, [[]]), 0), (0, 0))

    def test_more_than_one_turn(self):
        # Each lets something go that the other one needs to go on, several times.
        one = Recipe(6, [[0, 1, 2], [3, 4, 5], [0], [3]])
        other = Recipe(6, [[0, 1, 2, 3], [4, 5], [0, 4]])
        for bound in range(10, 20):
            first = [plain_held(one.needs(), []), plain_held(other.needs(), [])]
            self.assertEqual(sunk(one, other, bound), plain_by_turns(one, other, down, first, bound))


class BesideTest(unittest.TestCase):
    def test_full_widths_and_profiles(self):
        for one, other in some_two(60):
            two = (Recipe(*one), Recipe(*other))
            both = beside(*two)
            self.assertEqual(full_width_beside(*two), full_width(both))
            self.assertEqual(profile_beside(*two), profile(both))

    def test_all_tiny_recipes(self):
        pairs = every_pair(1, 2) + [(2, [[0, 1]]), (2, [[0, 1], [1]]), STEEP]
        for one in pairs:
            for other in pairs:
                both = beside(Recipe(*one), Recipe(*other))
                self.assertEqual(full_width_beside(Recipe(*one), Recipe(*other)), full_width(both))
                self.assertEqual(profile_beside(Recipe(*one), Recipe(*other)), profile(both))

    def test_the_document_s_words_for_the_full_width(self):
        for one, other in some_two(61):
            two = (Recipe(*one), Recipe(*other))
            least = tuple(min(number for _, number in profile(part)[0]) for part in two)
            most = [full_width(part) for part in two]
            bounds = [bound for bound in range(30) if sunk(*two, bound) == least == risen(*two, bound)]
            bounds = [bound for bound in bounds if bound >= max(most[0] + least[1], most[1] + least[0])]
            self.assertEqual(full_width_beside(*two), bounds[0])

    def test_each_is_the_other_or_is_renumbered(self):
        chance = random.Random(62)
        for pair in STEPPED[:8] + [CHAIN, TREE, SWAP, (2, [[], [0, 1], []])]:
            recipe = Recipe(*pair)
            other = renumbered(recipe, chance.sample(range(recipe.size()), recipe.size()))
            told = profile(beside(recipe, recipe))
            for two in [(recipe, recipe), (recipe, other), (other, recipe), (recipe, Recipe(*pair))]:
                self.assertEqual((profile_beside(*two), full_width_beside(*two)), (told, told[2]))

    def test_great_recipes(self):
        pairs = great_pairs()
        for one in pairs:
            for other in pairs:
                two = (Recipe(*one), Recipe(*other))
                told = full_width_beside(*two)
                self.assertEqual(told, profile_beside(*two)[2])
                self.assertEqual(told, full_width_beside(*two[::-1]))
                order = shuffled(two[0], leading_order(two[0]), two[1], leading_order(two[1]))
                self.assertLessEqual(plain_width_of(plain_both(one, other), order, {}), told)
        self.assertEqual(full_width_beside(Recipe(8, [list(range(8))] * 8), Recipe(8, [list(range(8))] * 8)), 23)


class ShuffledTest(ErrorChecks, unittest.TestCase):
    def leading(self, recipe, chance):
        """Some leading orders of a recipe, and one that is none if there is any."""
        orders = list(map(list, permutations(range(recipe.size()))))
        right = [order for order in orders if is_leading_order(recipe, order)]
        wrong = [order for order in orders if order not in right]
        return chance.sample(right, min(3, len(right))), wrong[:1]

    def test_any_leading_orders_can_be_shuffled(self):
        chance = random.Random(63)
        for one, other in some_two(63)[::2]:
            two = (Recipe(*one), Recipe(*other))
            most = full_width(beside(*two))
            for first in self.leading(two[0], chance)[0]:
                for second in self.leading(two[1], chance)[0]:
                    told = shuffled(two[0], first, two[1], second)
                    size = len(one[1])
                    self.assertEqual([block for block in told if block < size], first)
                    self.assertEqual([block - size for block in told if block >= size], second)
                    self.assertLessEqual(plain_width_of(plain_both(one, other), told, {}), most)
                    self.assertIs(is_shuffled(two[0], first, two[1], second, told), True)

    def test_orders_that_are_not_leading(self):
        chance = random.Random(64)
        recipe, steep = Recipe(2, [[], [0, 1], []]), Recipe(*STEEP)
        wrong = [0, 1, 2]
        self.assertEqual(self.leading(recipe, chance)[1], [wrong])
        for good in self.leading(steep, chance)[0]:
            self.assert_error(errors.Refused, wrong, shuffled, recipe, wrong, steep, good)
            self.assert_error(errors.Refused, wrong, shuffled, steep, good, recipe, wrong)
            for thing in ([0, 1, 2, 3, 4], [3, 4, 0, 1, 2], None):
                self.assertIs(is_shuffled(recipe, wrong, steep, good, thing), False)
                self.assertIs(is_shuffled(steep, good, recipe, wrong, thing), False)
        other = list(wrong)
        self.assert_error(errors.Refused, wrong, shuffled, recipe, wrong, recipe, other)

    def test_refused_comes_behind_what_is_no_order(self):
        recipe = Recipe(2, [[], [0, 1], []])
        wrong = [0, 1, 2]
        for second in (None, [0, 1], (1, 0, 2), [True, 0, 2], [0, 1, 2, 3]):
            self.assert_error(errors.InvalidOrder, second, shuffled, recipe, wrong, recipe, second)
            self.assert_error(errors.InvalidOrder, second, is_shuffled, recipe, wrong, recipe, second, None)
            self.assert_error(errors.InvalidOrder, second, shuffled, recipe, second, recipe, None)
            self.assert_error(errors.InvalidRecipe, second, shuffled, recipe, wrong, second, wrong)

    def test_is_shuffled_of_all_orders(self):
        for one, other in [(STEEP, SWAP), (SWAP, SWAP), ((2, [[], [0, 1], []]), STEEP), ((1, [[0]]), CHAIN)]:
            two = (Recipe(*one), Recipe(*other))
            first, second = leading_order(two[0]), leading_order(two[1])
            needs = plain_both(one, other)
            most, size, memo = full_width(beside(*two)), len(one[1]), {}
            for order in map(list, permutations(range(len(needs)))):
                right = [block for block in order if block < size] == first
                right = right and [block - size for block in order if block >= size] == second
                right = right and plain_width_of(needs, order, memo) <= most
                self.assertIs(is_shuffled(two[0], first, two[1], second, order), right)
                self.assertEqual(width_of(beside(*two), order), plain_width_of(needs, order, memo))

    def test_is_shuffled_of_any_object(self):
        one = Recipe(1, [[0]])
        swap = Recipe(*SWAP)
        for two, orders, right in [((one, one), ([0], [0]), [[0, 1], [1, 0]]), ((one, swap), ([0], [0, 1]), None)]:
            for thing in any_objects() + [[0, 1, 2], [1, 2, 0], [1, 0, 2], [0, 1, 2, 3]]:
                told = is_shuffled(two[0], orders[0], two[1], orders[1], thing)
                self.assertIs(type(told), bool)
                if right is None:
                    right = [[0, 1, 2], [1, 2, 0], [1, 0, 2]]
                self.assertIs(told, repr(thing) in map(repr, right), repr(thing))
        told = shuffled(one, [0], swap, [0, 1])
        for other in (told + [3], told[:-1], tuple(told), told + told[:1]):
            self.assertIs(is_shuffled(one, [0], swap, [0, 1], other), False)


class CopiesTest(ErrorChecks, unittest.TestCase):
    def test_few_copies(self):
        for pair in every_pair(2, 2) + [STEEP, CHAIN, (2, [[], [0, 1], []]), (0, [[], [], []]), (3, [[0, 1, 2]])]:
            recipe = Recipe(*pair)
            both = recipe
            for many in range(1, 5):
                if both.size() < 9:
                    self.assertEqual(full_width_of_copies(recipe, many), full_width(both))
                both = beside(both, recipe)

    def test_many_copies(self):
        chance = random.Random(65)
        for pair in great_pairs() + [(8, some_needs(chance, 8, 8)) for _ in range(6)] + [STEEP, TREE, (0, [[]])]:
            recipe = Recipe(*pair)
            step = max(plain_held(pair[1], []), len(pair[1]))
            self.assertEqual(copy_step(recipe), step)
            widths = [full_width_of_copies(recipe, many) for many in range(1, 30)]
            above = [width - step * many for many, width in enumerate(widths, 1)]
            still = above.index(above[-1])
            # It falls by at least 1 till it stands still, and then for ever.
            self.assertTrue(all(later < early for early, later in zip(above[:still], above[1:still + 1])))
            self.assertEqual(set(above[still:]), {above[-1]})
            self.assertGreaterEqual(above[-1], 0)
            for many in (10 ** 6, 10 ** 29, 10 ** 30 - 1):
                self.assertEqual(full_width_of_copies(recipe, many), step * many + above[-1])

    def test_two_copies_are_a_recipe_beside_itself(self):
        for pair in great_pairs() + small_pairs()[::9]:
            recipe = Recipe(*pair)
            self.assertEqual(full_width_of_copies(recipe, 1), full_width(recipe))
            self.assertEqual(full_width_of_copies(recipe, 2), full_width_beside(recipe, recipe))
            both = beside(recipe, recipe)
            if both.size() < 9:
                self.assertEqual(full_width_of_copies(recipe, 4), full_width_beside(both, both))

    def test_counts_that_are_none(self):
        recipe = Recipe(*SWAP)
        for many in (0, -1, True, False, None, "1", [1], (1,), 10 ** 30 * -1):
            self.assert_error(errors.InvalidCount, many, full_width_of_copies, recipe, many)


class UnchangedTest(unittest.TestCase):
    def test_changing_a_result_changes_no_later_one(self):
        steep, swap = Recipe(*STEEP), Recipe(*SWAP)
        first, second = leading_order(steep), leading_order(swap)
        told = shuffled(steep, first, swap, second)
        kept = list(told)
        told.append(7)
        self.assertEqual(shuffled(steep, first, swap, second), kept)
        self.assertEqual((first, second), (leading_order(steep), leading_order(swap)))
        told = profile_beside(steep, swap)
        kept = repr(told)
        told[0].clear()
        told[1].append(7)
        self.assertEqual(repr(profile_beside(steep, swap)), kept)
