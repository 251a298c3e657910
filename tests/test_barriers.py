"""Points [25] to [28]: ordinary inputs and edges."""
import random
import unittest
from itertools import combinations, permutations

from sparecells.barriers import barrier, border, is_barrier, is_way_to, reached, stuck_lots, way_to
from sparecells.orders import width
from sparecells.recipes import Recipe
from tests.plain import is_plain_lot
from tests.support import (
    CHAIN, TREE, any_objects, every_pair, great_pairs, plain_held, plain_holds, plain_lots, small_pairs)


def bounds(many, needs):
    return range(many + len(needs) + 2)


def plain_ways(needs, bound):
    """All lots that lack a block and are reached, each with all sequences by which it is, found road by road."""
    held = plain_holds(needs)
    ways = {}
    for many in range(len(needs)):
        for way in permutations(range(len(needs)), many):
            if all(held[tuple(sorted(way[:at]))] <= bound for at in range(many + 1)):
                ways.setdefault(tuple(sorted(way)), []).append(list(way))
    return ways


def is_plain_barrier(needs, bound, lots, held):
    size = len(needs)
    known = [tuple(lot) for lot in lots]
    if len(set(known)) < len(known) or any(held[lot] > bound or size - len(lot) < 2 for lot in known):
        return False
    wider = [()] + [tuple(sorted(lot + (block,))) for lot in known for block in range(size) if block not in lot]
    return all(lot in known or held[lot] > bound for lot in wider)


class ReachedTest(unittest.TestCase):
    def test_reached_lots_and_the_ways_to_them(self):
        for many, needs in small_pairs():
            recipe = Recipe(many, needs)
            for bound in bounds(many, needs):
                ways = plain_ways(needs, bound)
                self.assertEqual(reached(recipe, bound), [list(lot) for lot in sorted(ways)])
                for lot in plain_lots(len(needs)):
                    self.assertIn(way_to(recipe, bound, lot), ways.get(tuple(lot), [None]))

    def test_is_way_to(self):
        for many, needs in small_pairs()[:60:2] + [CHAIN, TREE]:
            recipe = Recipe(many, needs)
            for bound in bounds(many, needs):
                ways = plain_ways(needs, bound)
                for lot in plain_lots(len(needs)):
                    right = ways.get(tuple(lot), [])
                    for way in permutations(lot):
                        self.assertIs(is_way_to(recipe, bound, lot, list(way)), list(way) in right)
                        self.assertIs(is_way_to(recipe, bound, lot, way), False)
                    for thing in any_objects():
                        self.assertIs(is_way_to(recipe, bound, lot, thing), repr(thing) in map(repr, right))

    def test_ways_with_a_block_more_less_or_twice(self):
        tree = Recipe(*TREE)
        self.assertIs(is_way_to(tree, 5, [1, 3], [1, 3]), True)
        for way in ([1], [3], [], [1, 3, 3], [1, 1, 3], [1, 3, 0], [1, 2], [3, 1], [1, 3, 99], [1, True], [-1, 3]):
            self.assertIs(is_way_to(tree, 5, [1, 3], way), False, way)

    def test_the_lot_of_all_blocks_is_never_reached(self):
        for many, needs in small_pairs() + great_pairs():
            recipe = Recipe(many, needs)
            everything = list(range(len(needs)))
            self.assertNotIn(everything, reached(recipe, 10 ** 30))
            self.assertEqual(len(reached(recipe, 10 ** 30)), 2 ** len(needs) - 1)
            self.assertIs(way_to(recipe, 10 ** 30, everything), None)
            self.assertIs(is_way_to(recipe, 10 ** 30, everything, everything), False)
            self.assertIs(is_way_to(recipe, 10 ** 30, everything, None), False)

    def test_below_what_no_block_holds_nothing_is_reached(self):
        for many, needs in small_pairs() + great_pairs():
            recipe = Recipe(many, needs)
            least = plain_held(needs, [])
            self.assertEqual(way_to(recipe, least, []), [])
            self.assertIs(is_way_to(recipe, least, [], []), True)
            if least > 0:
                self.assertEqual(reached(recipe, least - 1), [])
                self.assertIs(way_to(recipe, least - 1, []), None)
                self.assertIs(is_way_to(recipe, least - 1, [], []), False)
                self.assertEqual((stuck_lots(recipe, least - 1), border(recipe, least - 1)), ([], []))

    def test_a_low_lot_that_no_way_leads_to(self):
        # All three blocks free the old one, but each of them alone holds too much.
        recipe = Recipe(4, [[0, 1, 2, 3], [0, 1, 2, 3], []])
        self.assertEqual(reached(recipe, 4), [[]])
        self.assertEqual((way_to(recipe, 4, [0, 1]), way_to(recipe, 5, [0, 1])), (None, [0, 1]))
        self.assertIs(is_way_to(recipe, 4, [0, 1], [0, 1]), False)


class BarriersTest(unittest.TestCase):
    def test_all_lists_of_lots_of_tiny_recipes(self):
        chance = random.Random(25)
        for many, needs in every_pair(2, 2) + [CHAIN, (2, [[0], [0, 1], [1]]), (0, [[], [], []]), (1, [[0], [], [0]])]:
            recipe = Recipe(many, needs)
            held = plain_holds(needs)
            lots = plain_lots(len(needs))
            for bound in bounds(many, needs):
                for count in range(len(lots) + 1):
                    for rows in combinations(lots, count):
                        told = is_barrier(recipe, bound, chance.sample(rows, count))
                        self.assertIs(told, is_plain_barrier(needs, bound, rows, held), (needs, bound, rows))

    def test_there_is_one_exactly_if_no_order_is_within_the_bound(self):
        for many, needs in small_pairs() + great_pairs():
            recipe = Recipe(many, needs)
            held = plain_holds(needs)
            least = width(recipe)
            for bound in bounds(many, needs):
                lots = barrier(recipe, bound)
                self.assertEqual(lots is None, bound >= least)
                self.assertIs(is_barrier(recipe, bound, reached(recipe, bound)), bound < least)
                self.assertIs(is_barrier(recipe, bound, lots), lots is not None)
                if lots is not None:
                    self.assertTrue(is_plain_barrier(needs, bound, lots, held))

    def test_below_at_and_above_the_width(self):
        for many, needs in small_pairs() + great_pairs():
            recipe = Recipe(many, needs)
            least = width(recipe)
            self.assertEqual([barrier(recipe, bound) for bound in (least, least + 1, 10 ** 30)], [None, None, None])
            if least > 0:
                self.assertIs(is_barrier(recipe, least - 1, barrier(recipe, least - 1)), True)

    def test_below_what_no_block_holds_no_lot_is_one(self):
        for many, needs in small_pairs():
            recipe = Recipe(many, needs)
            least = plain_held(needs, [])
            self.assertIs(is_barrier(recipe, least, []), False)
            if least > 0:
                self.assertIs(is_barrier(recipe, least - 1, []), True)
                self.assertEqual(barrier(recipe, 0), [])

    def test_reached_lots_lie_in_each_barrier(self):
        for many, needs in every_pair(2, 2) + [CHAIN, (2, [[0, 1], [0, 1], [0, 1]])]:
            recipe = Recipe(many, needs)
            lots = [lot for lot in plain_lots(len(needs)) if len(needs) - len(lot) >= 2]
            for bound in range(width(recipe)):
                for count in range(len(lots) + 1):
                    for rows in combinations(lots, count):
                        if is_barrier(recipe, bound, list(rows)):
                            self.assertTrue(all(lot in rows for lot in reached(recipe, bound)))

    def test_one_lot_more_less_or_twice(self):
        for many, needs in small_pairs() + great_pairs():
            recipe = Recipe(many, needs)
            bound = width(recipe) - 1
            if bound < 0:
                continue
            held = plain_holds(needs)
            lots = barrier(recipe, bound)
            for at, lot in enumerate(lots):
                self.assertIs(is_barrier(recipe, bound, lots + [lot]), False)
                self.assertIs(is_barrier(recipe, bound, lots[:at] + lots[at + 1:] + [tuple(lot)]), False)
                # Each reached lot lies in each barrier.
                self.assertIs(is_barrier(recipe, bound, lots[:at] + lots[at + 1:]), False)
            for lot in plain_lots(len(needs)):
                right = is_plain_barrier(needs, bound, lots + [lot], held)
                self.assertIs(is_barrier(recipe, bound, [lot] + lots), right)

    def test_lots_that_lack_one_block_or_none_are_in_no_barrier(self):
        # Below 3 cells no lot leads on, but that lot itself holds little enough.
        recipe = Recipe(3, [[0, 1, 2], []])
        self.assertIs(is_barrier(recipe, 2, []), True)
        self.assertIs(is_barrier(recipe, 2, [[0]]), False)
        self.assertIs(is_barrier(recipe, 2, [[0, 1]]), False)
        self.assertIs(is_barrier(Recipe(1, [[0]]), 0, []), True)
        self.assertIs(is_barrier(Recipe(1, [[0]]), 0, [[]]), False)
        self.assertIs(is_barrier(Recipe(1, [[0]]), 1, [[]]), False)
        self.assertIs(is_barrier(Recipe(0, [[]]), 0, [[]]), False)

    def test_a_lot_that_holds_more_than_the_bound_is_in_none(self):
        recipe = Recipe(2, [[0, 1], [0, 1], [0, 1]])
        self.assertIs(is_barrier(recipe, 2, [[]]), True)
        self.assertIs(is_barrier(recipe, 2, [[], [0]]), False)
        self.assertIs(is_barrier(recipe, 1, [[]]), False)

    def test_is_barrier_of_any_object(self):
        for many, needs in small_pairs()[:50] + [CHAIN, TREE]:
            recipe = Recipe(many, needs)
            held = plain_holds(needs)
            for bound in (0, 1, 2, 3):
                for thing in any_objects():
                    right = type(thing) is list and all(is_plain_lot(len(needs), lot) for lot in thing)
                    right = right and is_plain_barrier(needs, bound, thing, held)
                    self.assertIs(is_barrier(recipe, bound, thing), right, repr(thing))

    def test_lots_in_any_sequence(self):
        recipe = Recipe(8, [list(range(8)) for _ in range(8)])
        lots = barrier(recipe, 14)
        self.assertEqual(len(lots), 2 ** 8 - 1 - 8)
        self.assertIs(is_barrier(recipe, 14, lots[::-1]), True)
        self.assertIs(is_barrier(recipe, 14, tuple(lots)), False)
        self.assertIs(is_barrier(recipe, 15, lots), False)


class EdgesOfReachTest(unittest.TestCase):
    def test_stuck_lots_and_border(self):
        for many, needs in small_pairs() + great_pairs()[2:]:
            recipe = Recipe(many, needs)
            held = plain_holds(needs)
            for bound in bounds(many, needs):
                there = [tuple(lot) for lot in reached(recipe, bound)]
                stuck, pairs = [], []
                for lot in there:
                    others = [block for block in range(len(needs)) if block not in lot]
                    wider = [tuple(sorted(lot + (block,))) for block in others]
                    if len(others) >= 2:
                        stuck += [] if set(wider) & set(there) else [list(lot)]
                        pairs += [(list(lot), block) for block, more in zip(others, wider) if held[more] > bound]
                self.assertEqual(stuck_lots(recipe, bound), stuck)
                self.assertEqual(border(recipe, bound), pairs)

    def test_by_hand(self):
        swap = Recipe(2, [[1], [0]])
        self.assertEqual((stuck_lots(swap, 2), border(swap, 2)), ([], []))
        crown = Recipe(2, [[0, 1], [0, 1], [0, 1]])
        self.assertEqual((reached(crown, 2), stuck_lots(crown, 2)), ([[]], [[]]))
        self.assertEqual(border(crown, 2), [([], 0), ([], 1), ([], 2)])
        # Lots that lack one block are no part of the border, also where all blocks hold too much.
        self.assertEqual((stuck_lots(Recipe(0, [[], []]), 1), border(Recipe(0, [[], []]), 1)), ([], []))
        self.assertEqual(border(Recipe(3, [[0, 1], [1, 2], [2]]), 3), [([], 1), ([], 2), ([0], 2)])
        self.assertEqual(stuck_lots(Recipe(5, [[0, 1, 2], [3, 4], [0], [3]]), 4), [])


class UnchangedTest(unittest.TestCase):
    def test_changing_a_result_changes_no_later_one(self):
        crown = Recipe(2, [[0, 1], [0, 1], [0, 1]])
        for function in (reached, barrier, stuck_lots, border):
            told = function(crown, 2)
            kept = repr(told)
            again = function(crown, 2)
            told[0][0].append(7) if function is border else told[0].append(7)
            told.append(7)
            self.assertEqual((repr(again), repr(function(crown, 2))), (kept, kept))
