"""Points [52] to [56]: ordinary inputs and edges."""
import random
import unittest
from itertools import combinations, combinations_with_replacement, permutations

from sparecells import errors
from sparecells.orders import full_width, is_order
from sparecells.profiles import (
    down, down_lot, is_down_lot, is_leading_order, is_third, is_up_lot, leading_order, profile, stand_alike, third, up,
    up_lot)
from sparecells.recipes import Recipe, beside, renumbered, turned
from sparecells.rests import is_sink
from tests.support import (
    CHAIN, TREE, ErrorChecks, any_objects, every_pair, great_pairs, plain_held, plain_holds, plain_lots, plain_orders,
    small_pairs, some_needs)
from tests.test_courses import SWAP

STEEP = (3, [[0, 1, 2], [0, 1, 2]])
# Profiles of several steps, and orders of at most the full width that are not leading, for each reason.
STEPPED = [
    STEEP, (3, [[], [0, 1, 2], [0, 1, 2]]), (3, [[], [0, 1, 2], [0, 1, 2], [0, 1, 2], [0, 1, 2]]),
    (5, [[0, 1], [2, 3, 4], [2, 3, 4], [2, 3, 4]]), (6, [[0, 1], [2, 3, 4, 5], [2, 3, 4, 5], [2, 3, 4, 5]]),
    (5, [[0, 1], [0, 1], [0, 1], [2, 3, 4], [2, 3, 4]]), (5, [[], [0, 1], [0, 1], [2, 3, 4]]),
    (7, [[0, 2, 6], [0, 6], [0, 6], [0, 1, 2, 3, 4, 5, 6], [0, 6]]),
    (8, [[0, 1, 2], [0, 1, 2], [3, 4, 5, 6, 7], [3, 4, 5, 6, 7], [3, 4, 5, 6, 7], [3, 4, 5, 6, 7]]),
    (6, [[0, 1], [0, 1], [0, 1], [2, 3, 4, 5], [2, 3, 4, 5], [2, 3, 4, 5], [2, 3, 4, 5], [2, 3, 4, 5]]),
]


def plain_led_to(held, start, bound, change):
    """The lots to which a lot leads within a bound, by one block more or less at a time."""
    if held[start] > bound:
        return []
    found = {start: True}
    todo = [start]
    for lot in todo:
        for block in range(max(map(len, held))):
            later = tuple(sorted(set(lot) ^ {block}))
            if len(later) - len(lot) == change and later not in found and held[later] <= bound:
                found[later] = True
                todo.append(later)
    return todo


def plain_lows(needs, bound):
    """The lots that `down` tells of, and those that `up` tells of, each with their number or None."""
    held = plain_holds(needs)
    told = []
    for start, change in (((), 1), (tuple(range(len(needs))), -1)):
        led = plain_led_to(held, start, bound, change)
        least = min((held[lot] for lot in led), default=None)
        told.append((least, [list(lot) for lot in led if held[lot] == least]))
    return told


def plain_profile(many, needs):
    numbers = [[low[0] for low in plain_lows(needs, bound)] for bound in range(many + len(needs) + 1)]
    parts = []
    for place in range(2):
        steps, before = [], None
        for bound, row in enumerate(numbers):
            if row[place] is not None and (before is None or row[place] < before):
                steps.append((bound, row[place]))
            before = row[place]
        parts.append(steps)
    return parts[0], parts[1], plain_full_width(needs)


def plain_full_width(needs):
    return max(len(needs), min(width for _, width in plain_orders(needs)))


def is_plain_leading(many, needs, told, order):
    """Whether an order is leading, each of its lots asked by the words of the document; `told` is the profile."""
    downs, ups, most = told
    holds = [plain_held(needs, order[:at]) for at in range(len(order) + 1)]
    if any(number > most for number in holds):
        return False
    for bound, number in downs:
        if not any(hold == number and max(holds[:at + 1]) <= bound for at, hold in enumerate(holds)):
            return False
    for bound, number in ups:
        if not any(hold == number and max(holds[at:]) <= bound for at, hold in enumerate(holds)):
            return False
    return True


def some_pairs():
    return small_pairs()[::2] + [CHAIN, TREE, SWAP] + STEPPED


class LowsTest(unittest.TestCase):
    def test_lows_within_each_bound(self):
        for many, needs in some_pairs():
            recipe = Recipe(many, needs)
            lots = plain_lots(len(needs))
            for bound in list(range(many + len(needs) + 2)) + [10 ** 29]:
                (low, downs), (rise, ups) = plain_lows(needs, bound)
                self.assertEqual((down(recipe, bound), up(recipe, bound)), (low, rise))
                self.assertIn(down_lot(recipe, bound), downs if downs else [None])
                self.assertIn(up_lot(recipe, bound), ups if ups else [None])
                self.assertEqual([lot for lot in lots if is_down_lot(recipe, bound, lot)], sorted(downs))
                self.assertEqual([lot for lot in lots if is_up_lot(recipe, bound, lot)], sorted(ups))

    def test_bounds_below_what_is_held_at_first(self):
        for many, needs in some_pairs() + great_pairs():
            recipe = Recipe(many, needs)
            first = plain_held(needs, [])
            for bound in range(first + 1):
                self.assertEqual(down(recipe, bound) is None, bound < first)
                self.assertEqual(down_lot(recipe, bound) is None, bound < first)
            for bound in range(len(needs) + 1):
                self.assertEqual(up(recipe, bound) is None, bound < len(needs))
                self.assertEqual(up_lot(recipe, bound) is None, bound < len(needs))
            if first:
                self.assertIs(is_down_lot(recipe, first - 1, []), False)
            self.assertIs(is_up_lot(recipe, len(needs) - 1, list(range(len(needs)))), False)

    def test_the_number_may_be_less_at_the_first_bound(self):
        recipe = Recipe(3, [[0, 1]])
        self.assertEqual((down(recipe, 1), down(recipe, 2), profile(recipe)[0]), (None, 1, [(2, 1)]))

    def test_the_lot_of_all_blocks_is_one_like_others(self):
        recipe = Recipe(3, [[0, 1, 2]])
        self.assertEqual((down(recipe, 3), down_lot(recipe, 3), is_down_lot(recipe, 3, [0])), (1, [0], True))
        self.assertEqual((up(recipe, 1), up_lot(recipe, 1)), (1, [0]))

    def test_judges_of_any_object(self):
        for pair in [(1, [[0]]), SWAP, STEEP, CHAIN, (0, [[]])]:
            recipe = Recipe(*pair)
            for bound in (0, 1, 2, 3, 4):
                (_, downs), (_, ups) = plain_lows(pair[1], bound)
                for thing in any_objects():
                    self.assertIs(is_down_lot(recipe, bound, thing), repr(thing) in map(repr, downs), repr(thing))
                    self.assertIs(is_up_lot(recipe, bound, thing), repr(thing) in map(repr, ups), repr(thing))

    def test_smallest_lots_are_sinks(self):
        for many, needs in some_pairs():
            recipe = Recipe(many, needs)
            for bound in range(plain_held(needs, []), many + len(needs) + 1):
                _, lots = plain_lows(needs, bound)[0]
                least = [lot for lot in lots if all(set(lot) <= set(other) for other in lots)]
                self.assertEqual(len(least), 1)
                self.assertIs(is_sink(recipe, least[0]), True)


class ProfileTest(unittest.TestCase):
    def test_small_profiles(self):
        for many, needs in some_pairs():
            self.assertEqual(profile(Recipe(many, needs)), plain_profile(many, needs))

    def test_great_profiles(self):
        chance = random.Random(54)
        for many, needs in great_pairs() + [(8, some_needs(chance, 8, 8)) for _ in range(30)]:
            recipe = Recipe(many, needs)
            downs, ups, most = profile(recipe)
            self.assertEqual(most, full_width(recipe))
            for steps, function in ((downs, down), (ups, up)):
                told = [function(recipe, bound) for bound in range(18)]
                falls = [bound for bound in range(18) if told[bound] is not None and told[bound] != told[bound - 1]]
                self.assertEqual(steps, [(bound, told[bound]) for bound in falls])

    def test_idle_blocks_change_no_profile(self):
        for many, needs in small_pairs()[::5]:
            self.assertEqual(profile(Recipe(many, needs)), profile(Recipe(many + 2, needs)))

    def test_steep_recipes(self):
        self.assertEqual(profile(Recipe(8, [list(range(8))] * 8)), ([(8, 8)], [(8, 8)], 15))
        self.assertEqual(profile(Recipe(8, [list(range(8))] * 2)), ([(8, 8), (9, 2)], [(2, 2)], 9))
        self.assertEqual(profile(Recipe(2, [[0, 1]] * 8)), ([(2, 2)], [(8, 8), (9, 2)], 9))
        self.assertEqual(profile(Recipe(0, [[]] * 3)), ([(0, 0)], [(3, 0)], 3))


class StepsTest(unittest.TestCase):
    def test_recipes_with_several_steps(self):
        lengths = {tuple(map(len, plain_profile(many, needs)[:2])) for many, needs in STEPPED}
        self.assertLessEqual({(1, 1), (1, 2), (2, 1), (2, 2), (3, 1), (1, 3)}, lengths)


class ThirdTest(ErrorChecks, unittest.TestCase):
    def kinds(self):
        """One recipe of each profile of recipes of at most so many blocks."""
        kinds = {}
        for many, needs in every_pair(2, 3) + [(3, [[0, 1, 2]] * 3), (3, [[0, 1, 2]]), (4, [[0, 1], [2, 3]]), STEEP]:
            kinds.setdefault(repr(plain_profile(many, needs)), Recipe(many, needs))
        return list(kinds.values())

    def test_recipes_stand_for_one_another_exactly_if_profiles_are_equal(self):
        kinds = self.kinds()
        self.assertGreater(len(kinds), 12)
        for one in kinds:
            for other in kinds:
                alike = one == other
                self.assertIs(stand_alike(one, other), alike)
                told = third(one, other)
                self.assertEqual(told is None, alike)
                if not alike:
                    self.check_third(one, other, told)

    def check_third(self, one, other, told):
        self.assertLessEqual(max(told.many(), told.size()), 8)
        self.assertIs(is_third(one, other, told), True)
        self.assertNotEqual(full_width(beside(one, told)), full_width(beside(other, told)))

    def test_recipes_of_one_profile_beside_all_small_ones(self):
        pairs = every_pair(2, 2)
        for number, pair in enumerate(pairs[::3]):
            for other in pairs[number::7]:
                if plain_profile(*pair) == plain_profile(*other):
                    for beyond in pairs[::4]:
                        widths = [full_width(beside(Recipe(*part), Recipe(*beyond))) for part in (pair, other)]
                        self.assertEqual(widths[0], widths[1])
                        self.assertIs(is_third(Recipe(*pair), Recipe(*other), Recipe(*beyond)), False)

    def test_is_third_of_all_small_recipes(self):
        kinds = self.kinds()
        chance = random.Random(55)
        for _ in range(120):
            one, other, beyond = (chance.choice(kinds) for _ in range(3))
            widths = [full_width(beside(part, beyond)) for part in (one, other)]
            self.assertIs(is_third(one, other, beyond), widths[0] != widths[1])

    def test_all_profiles_of_recipes_of_four_blocks(self):
        kinds = {}
        for many in range(5):
            rows = [list(row) for size in range(many + 1) for row in combinations(range(many), size)]
            for size in range(1, 5):
                for needs in combinations_with_replacement(rows, size):
                    recipe = Recipe(many, list(needs))
                    kinds.setdefault(repr(profile(recipe)), recipe)
        self.assertGreater(len(kinds), 50)
        for one, other in combinations(kinds.values(), 2):
            told = third(one, other)
            self.assertLessEqual(max(told.many(), told.size()), 8)
            self.assertIs(is_third(one, other, told), True)

    def test_thirds_that_are_too_great(self):
        one, other = Recipe(1, [[0]]), Recipe(3, [[0, 1, 2]])
        told = third(one, other)
        self.assertIs(is_third(one, other, Recipe(8, told.needs())), True)
        self.assertIs(is_third(one, other, Recipe(9, told.needs())), False)
        # Idle blocks beside it change no width.
        self.assertEqual(profile(Recipe(9, told.needs())), profile(told))
        self.assertIs(is_third(one, other, Recipe(1, [[0]] * 9)), False)
        self.assertIs(is_third(one, other, Recipe(60, [[block] for block in range(60)])), False)

    def test_recipes_that_stand_for_one_another(self):
        one, other = Recipe(1, [[0], []]), Recipe(1, [[0], [0]])
        self.assertIs(stand_alike(one, other), True)
        self.assertIs(third(one, other), None)
        chain = Recipe(*CHAIN)
        self.assertIs(stand_alike(chain, chain), True)
        for order in permutations(range(3)):
            self.assertIs(stand_alike(chain, renumbered(chain, list(order))), True)
            self.assertIs(third(renumbered(chain, list(order)), chain), None)

    def test_is_third_of_any_object(self):
        one, other = Recipe(*STEEP), Recipe(*SWAP)
        for thing in any_objects():
            told = is_third(one, other, thing)
            self.assertIs(type(told), bool)
            if type(thing) is not Recipe or max(thing.many(), thing.size()) > 8:
                self.assertIs(told, False)
            self.assertIs(is_third(one, one, thing), False)
        self.assertIs(third(one, one), None)


class LeadingTest(ErrorChecks, unittest.TestCase):
    def test_all_orders_of_small_recipes(self):
        for many, needs in [pair for pair in small_pairs()[::2] + STEPPED if len(pair[1]) < 6]:
            recipe = Recipe(many, needs)
            told = plain_profile(many, needs)
            right = [list(order) for order in permutations(range(len(needs)))
                     if is_plain_leading(many, needs, told, list(order))]
            self.assertIn(leading_order(recipe), right)
            for order in permutations(range(len(needs))):
                self.assertIs(is_leading_order(recipe, list(order)), list(order) in right)
                self.assertIs(is_leading_order(recipe, order), False)

    def test_every_great_recipe_has_one(self):
        chance = random.Random(57)
        for many, needs in great_pairs() + [(8, some_needs(chance, 8, 8)) for _ in range(40)] + small_pairs() + STEPPED:
            recipe = Recipe(many, needs)
            order = leading_order(recipe)
            self.assertIs(is_order(recipe, order), True)
            self.assertTrue(is_plain_leading(many, needs, profile(recipe), order))
            self.assertIs(is_leading_order(recipe, order), True)

    def test_orders_of_the_width_that_are_not_leading(self):
        recipe = Recipe(2, [[], [0, 1], []])
        self.assertIs(is_leading_order(recipe, [0, 1, 2]), False)
        self.assertIs(is_leading_order(recipe, [1, 0, 2]), True)
        # What it is from the end on counts, too.
        recipe = turned(Recipe(*STEEP))
        self.assertEqual(profile(recipe), ([(2, 2)], [(3, 3), (4, 2)], 4))
        other = Recipe(2, [[0, 1], [0, 1], [0, 1], []])
        late = [order for order in map(list, permutations(range(4))) if not is_leading_order(other, order)]
        self.assertIn([3, 0, 1, 2], late)

    def test_is_leading_order_of_any_object(self):
        for pair in [(1, [[0]]), SWAP, CHAIN, STEEP, (2, [[], [0, 1], []])]:
            recipe = Recipe(*pair)
            told = plain_profile(*pair)
            size = len(pair[1])
            right = [repr(list(order)) for order in permutations(range(size))
                     if is_plain_leading(*pair, told, list(order))]
            for thing in any_objects():
                self.assertIs(is_leading_order(recipe, thing), repr(thing) in right, repr(thing))


class UnchangedTest(unittest.TestCase):
    def test_changing_a_result_changes_no_later_one(self):
        steep = Recipe(*STEEP)
        for function, rest in [(down_lot, (4,)), (up_lot, (4,)), (leading_order, ())]:
            told = function(steep, *rest)
            kept = repr(told)
            told.append(7)
            self.assertEqual(repr(function(steep, *rest)), kept)
        told = profile(steep)
        kept = repr(told)
        told[0].append(7)
        told[1].clear()
        self.assertEqual(repr(profile(steep)), kept)

    def test_a_third_that_is_passed_again(self):
        one, other = Recipe(*STEEP), Recipe(*SWAP)
        told = third(one, other)
        told.needs().append([0])
        self.assertEqual(told, third(one, other))
        self.assertIs(is_third(one, other, told), True)

    def test_errors(self):
        self.assertRaises(errors.InvalidRecipe, profile, [[0]])
