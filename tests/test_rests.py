"""Points [29] to [32]: ordinary inputs and edges."""
import random
import unittest
from itertools import combinations, permutations

from sparecells import errors
from sparecells.orders import width_of
from sparecells.recipes import Recipe
from sparecells.rests import (
    best_road, height, is_best_road, is_rest, is_sink, least_height, led_through, rests, sinks)
from tests.support import (
    CHAIN, TREE, ErrorChecks, any_objects, every_pair, great_pairs, plain_held, plain_holds, plain_lots, small_pairs)


def more_blocks(lot, wider):
    return [block for block in wider if block not in lot]


def is_around(lot, wider):
    return set(lot) <= set(wider)


def plain_between(lot, wider):
    """All lots between two, both ends, too."""
    more = more_blocks(lot, wider)
    return [tuple(sorted(list(lot) + list(part))) for many in range(len(more) + 1) for part in combinations(more, many)]


def plain_height(held, lot, road):
    return max(held[tuple(sorted(list(lot) + list(road[:at])))] for at in range(len(road) + 1))


def plain_roads(held, lot, wider):
    """All roads between two lots, each with its height."""
    return [(list(road), plain_height(held, lot, road)) for road in permutations(more_blocks(lot, wider))]


def pairs_of_lots(needs):
    lots = plain_lots(len(needs))
    return [(lot, wider) for lot in lots for wider in lots]


class RestsTest(unittest.TestCase):
    def test_rests_by_all_lots_between(self):
        for many, needs in small_pairs():
            recipe = Recipe(many, needs)
            held = plain_holds(needs)
            for lot in plain_lots(len(needs)):
                found = []
                for wider in plain_lots(len(needs)):
                    right = is_around(lot, wider)
                    right = right and held[tuple(wider)] <= min(held[part] for part in plain_between(lot, wider))
                    self.assertIs(is_rest(recipe, lot, wider), right, (needs, lot, wider))
                    found += [wider] if right else []
                self.assertEqual(rests(recipe, lot), found)

    def test_a_lot_is_a_rest_of_itself(self):
        for many, needs in small_pairs() + great_pairs()[:1]:
            recipe = Recipe(many, needs)
            for lot in plain_lots(len(needs)):
                self.assertIs(is_rest(recipe, lot, lot), True)
            everything = list(range(len(needs)))
            self.assertEqual(rests(recipe, everything), [everything])

    def test_a_lot_that_is_not_around_is_none(self):
        chain = Recipe(*CHAIN)
        for lot, wider in (([0], []), ([0], [1]), ([0, 1], [0, 2]), ([0, 1, 2], [0, 1]), ([2], [0, 1])):
            self.assertIs(is_rest(chain, lot, wider), False)
        self.assertEqual(rests(chain, [0]), [[0], [0, 1], [0, 1, 2]])

    def test_great_recipes(self):
        for many, needs in great_pairs():
            recipe = Recipe(many, needs)
            held = plain_holds(needs)
            for lot in ([], [0], [7], [1, 4], [0, 1, 2, 3], list(range(7))):
                found = []
                for wider in plain_lots(8):
                    if is_around(lot, wider):
                        least = min(held[part] for part in plain_between(lot, wider))
                        found += [wider] if held[tuple(wider)] <= least else []
                self.assertEqual(rests(recipe, lot), found)
                self.assertIs(is_rest(recipe, lot, found[-1]), True)


class RoadsTest(ErrorChecks, unittest.TestCase):
    def test_heights_of_all_roads(self):
        for many, needs in small_pairs():
            recipe = Recipe(many, needs)
            held = plain_holds(needs)
            for lot, wider in pairs_of_lots(needs)[::3]:
                if not is_around(lot, wider):
                    continue
                for road, most in plain_roads(held, lot, wider):
                    self.assertEqual(height(recipe, lot, road), most)

    def test_least_heights_and_best_roads(self):
        for many, needs in small_pairs():
            recipe = Recipe(many, needs)
            held = plain_holds(needs)
            for lot, wider in pairs_of_lots(needs):
                if not is_around(lot, wider):
                    self.assert_error(errors.Refused, wider, least_height, recipe, lot, wider)
                    self.assert_error(errors.Refused, wider, best_road, recipe, lot, wider)
                    continue
                roads = plain_roads(held, lot, wider)
                least = min(most for _, most in roads)
                self.assertEqual(least_height(recipe, lot, wider), least)
                self.assertIn((best_road(recipe, lot, wider), least), roads)

    def test_is_best_road_of_all_roads(self):
        for many, needs in small_pairs()[::2]:
            recipe = Recipe(many, needs)
            held = plain_holds(needs)
            for lot, wider in pairs_of_lots(needs)[::2]:
                if not is_around(lot, wider):
                    continue
                roads = plain_roads(held, lot, wider)
                least = min(most for _, most in roads)
                for road, most in roads:
                    self.assertIs(is_best_road(recipe, lot, wider, road), most == least)
                    self.assertIs(is_best_road(recipe, lot, wider, tuple(road)), False)
                    self.assertIs(is_best_road(recipe, lot, wider, road[1:]), road == [])
                    for block in range(len(needs) + 1):
                        self.assertIs(is_best_road(recipe, lot, wider, road + [block]), False)

    def test_is_best_road_of_any_object(self):
        for many, needs in small_pairs()[:40:3] + [CHAIN, TREE]:
            recipe = Recipe(many, needs)
            held = plain_holds(needs)
            for lot, wider in pairs_of_lots(needs):
                roads = plain_roads(held, lot, wider) if is_around(lot, wider) else []
                least = min([most for _, most in roads], default=0)
                right = [repr(road) for road, most in roads if most == least]
                for thing in any_objects():
                    self.assertIs(is_best_road(recipe, lot, wider, thing), repr(thing) in right, repr(thing))

    def test_not_around_no_road_is_the_best(self):
        chain = Recipe(*CHAIN)
        for lot, wider in (([0], []), ([0], [1]), ([0, 1], [0, 2]), ([0, 1, 2], [0, 1])):
            for road in ([], [0], [1], [2], [1, 2], None):
                self.assertIs(is_best_road(chain, lot, wider, road), False)

    def test_the_empty_road(self):
        for many, needs in small_pairs() + great_pairs()[3:]:
            recipe = Recipe(many, needs)
            for lot in plain_lots(len(needs)):
                most = plain_held(needs, lot)
                self.assertEqual((height(recipe, lot, []), least_height(recipe, lot, lot)), (most, most))
                self.assertEqual(best_road(recipe, lot, lot), [])
                self.assertIs(is_best_road(recipe, lot, lot, []), True)

    def test_both_ends_count(self):
        # Only the beginning, and only the end, holds as much.
        self.assertEqual(height(Recipe(3, [[0, 1, 2]]), [], [0]), 3)
        self.assertEqual(height(Recipe(0, [[], []]), [], [1, 0]), 2)
        self.assertEqual(least_height(Recipe(0, [[], []]), [], [0, 1]), 2)
        self.assertEqual(least_height(Recipe(3, [[0, 1, 2]]), [], [0]), 3)

    def test_roads_that_are_none(self):
        chain = Recipe(*CHAIN)
        for road in ([0], [1, 0], [1, 1], [3], [-1], [True], [[1]], (1,), "1", None, {1: 2}, 1):
            self.assert_error(errors.InvalidOrder, road, height, chain, [0], road)
            self.assert_error(errors.InvalidOrder, road, led_through, chain, [0, 1, 2], [0], road)
        self.assertEqual(height(chain, [0], [2]), 4)

    def test_great_recipes(self):
        chance = random.Random(30)
        for many, needs in great_pairs():
            recipe = Recipe(many, needs)
            held = plain_holds(needs)
            for _ in range(12):
                blocks = chance.sample(range(8), 8)
                start = chance.randrange(6)
                lot, wider = sorted(blocks[:start]), sorted(blocks[:min(8, start + 6)])
                roads = plain_roads(held, lot, wider)
                least = min(most for _, most in roads)
                self.assertEqual(least_height(recipe, lot, wider), least)
                self.assertIn((best_road(recipe, lot, wider), least), roads)
                road, most = chance.choice(roads)
                self.assertIs(is_best_road(recipe, lot, wider, road), most == least)


class LedThroughTest(ErrorChecks, unittest.TestCase):
    def check_led(self, recipe, held, order, lot, road):
        """The call by its words: what it returns, or what it refuses."""
        wider = sorted(lot + road)
        if set(order[:len(lot)]) != set(lot):
            self.assert_error(errors.Refused, lot, led_through, recipe, order, lot, road)
        elif held[tuple(wider)] > min(held[part] for part in plain_between(lot, wider)):
            self.assert_error(errors.Refused, road, led_through, recipe, order, lot, road)
        else:
            told = led_through(recipe, order, lot, road)
            rest = [block for block in order if block not in wider]
            self.assertEqual(told, order[:len(lot)] + road + rest)
            most = max(width_of(recipe, order), plain_height(held, lot, road))
            self.assertLessEqual(width_of(recipe, told), most)

    def test_all_calls_of_small_recipes(self):
        for pair in every_pair(2, 2) + [CHAIN, (2, [[0, 1], [0, 1], []]), (1, [[], [0], []])]:
            size = len(pair[1])
            recipe, held = Recipe(*pair), plain_holds(pair[1])
            for order in permutations(range(size)):
                for lot in plain_lots(size):
                    others = more_blocks(lot, range(size))
                    for road in [road for many in range(len(others) + 1) for road in permutations(others, many)]:
                        self.check_led(recipe, held, list(order), lot, list(road))

    def test_some_calls_of_greater_recipes(self):
        chance = random.Random(31)
        for pair in small_pairs()[-20:] + great_pairs():
            size = len(pair[1])
            recipe, held = Recipe(*pair), plain_holds(pair[1])
            for _ in range(60):
                order = chance.sample(range(size), size)
                lot = sorted(order[:chance.randrange(size + 1)])
                others = more_blocks(lot, range(size))
                self.check_led(recipe, held, order, lot, chance.sample(others, chance.randrange(len(others) + 1)))

    def test_the_lot_is_refused_ahead_of_the_road(self):
        # The road leads to no rest either: behind it more is held than ahead.
        recipe = Recipe(1, [[0], [], []])
        lot, road = [1], [2]
        self.assert_error(errors.Refused, lot, led_through, recipe, [0, 1, 2], lot, road)
        self.assert_error(errors.Refused, road, led_through, recipe, [1, 0, 2], lot, road)

    def test_refused_comes_behind_an_invalid_road(self):
        recipe = Recipe(1, [[0], [], []])
        for road in (None, [1], [0, 0], (2,), [3]):
            self.assert_error(errors.InvalidOrder, road, led_through, recipe, [0, 1, 2], [1], road)

    def test_the_empty_road_changes_no_order(self):
        tree = Recipe(*TREE)
        for order in permutations(range(4)):
            for at in range(5):
                self.assertEqual(led_through(tree, list(order), sorted(order[:at]), []), list(order))

    def test_by_hand(self):
        tree = Recipe(*TREE)
        self.assertEqual(led_through(tree, [1, 3, 0, 2], [], [0]), [0, 1, 3, 2])
        self.assertEqual(led_through(tree, [1, 3, 0, 2], [1, 3], [2, 0]), [1, 3, 2, 0])
        self.assertEqual(led_through(tree, [3, 1, 2, 0], [1, 3], [0]), [3, 1, 0, 2])


class SinksTest(unittest.TestCase):
    def test_sinks_by_all_lots_within(self):
        for many, needs in small_pairs() + great_pairs():
            recipe = Recipe(many, needs)
            held = plain_holds(needs)
            found = []
            for lot in plain_lots(len(needs)):
                within = [part for part in plain_between([], lot) if part != tuple(lot)]
                if all(held[part] > held[tuple(lot)] for part in within):
                    found.append(lot)
            self.assertEqual(sinks(recipe), found)
            for lot in plain_lots(len(needs))[::5 if len(needs) == 8 else 1]:
                self.assertIs(is_sink(recipe, lot), lot in found)
                if lot in found:
                    self.assertIs(is_rest(recipe, [], lot), True)

    def test_no_block_is_a_sink(self):
        for many, needs in small_pairs():
            self.assertIs(is_sink(Recipe(many, needs), []), True)

    def test_lots_that_hold_just_as_much_are_none(self):
        swap = Recipe(2, [[1], [0]])
        self.assertEqual((sinks(swap), is_sink(swap, [0])), ([[]], False))
        steep = Recipe(3, [[0, 1, 2], [0, 1, 2]])
        self.assertEqual((sinks(steep), is_sink(steep, [0, 1])), ([[], [0, 1]], True))
        # It holds less than each lot with one block less, but no less than that of no block.
        late = Recipe(2, [[0, 1], [0, 1], []])
        self.assertEqual((sinks(late), is_sink(late, [0, 1])), ([[]], False))


class UnchangedTest(unittest.TestCase):
    def test_changing_a_result_changes_no_later_one(self):
        tree = Recipe(*TREE)
        order, lot, road = [1, 3, 0, 2], [], [0]
        calls = [(rests, (tree, lot)), (best_road, (tree, lot, [0, 1])), (led_through, (tree, order, lot, road))]
        calls.append((sinks, (tree,)))
        for function, arguments in calls:
            told = function(*arguments)
            kept = repr(told)
            again = function(*arguments)
            if function in (rests, sinks):
                told[0].append(7)
            told.append(7)
            self.assertEqual((repr(again), repr(function(*arguments))), (kept, kept))
        self.assertEqual((order, lot, road), ([1, 3, 0, 2], [], [0]))
