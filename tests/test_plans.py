"""Points [47] to [51]: ordinary inputs and edges."""
import random
import unittest
from itertools import permutations, product

from sparecells import errors
from sparecells.courses import makes_image
from sparecells.cuts import stands
from sparecells.orders import least_cells
from sparecells.plans import (
    can_be, fewest_moves, is_moves, is_plan, loose_makes, makes_by, moves, plan)
from sparecells.recipes import Recipe
from tests.plain import is_plain_course, plain_done, plain_wrongs
from tests.support import (
    CHAIN, TREE, ErrorChecks, any_objects, every_pair, great_pairs, plain_orders, small_pairs, some_needs)
from tests.test_courses import SWAP, all_deeds, is_plain_made, plain_walk


def plain_least_cells(many, needs):
    return max(many, 1 + min(width for _, width in plain_orders(needs)))


def plain_can_be(many, needs, cells):
    """Whether right deeds lead to a state that is made, all states of the cells gone through."""
    if cells < many:
        return False
    first = tuple(("old", cell) if cell < many else None for cell in range(cells))
    seen, todo = {first}, [first]
    for state in todo:
        if is_plain_made(needs, state):
            return True
        for deed in all_deeds(len(needs), cells):
            if not plain_wrongs(needs, list(state), deed):
                later = tuple(plain_done(list(state), deed))
                if later not in seen:
                    seen.add(later)
                    todo.append(later)
    return False


def is_plain_plan(many, needs, cells, thing):
    if not is_plain_course(Recipe(many, needs), cells, thing) or cells < many:
        return False
    found, wrong = plain_walk(many, needs, cells, thing)
    return wrong is None and is_plain_made(needs, found[-1]) and len(thing) <= len(needs) + 2 * cells


def plain_makes(many, needs, cells, order, loose):
    """The makes of an order as the document tells them, None where there is no cell for one."""
    state = [("old", cell) if cell < many else None for cell in range(cells)]
    course = []
    for at, block in enumerate(order):
        later = {("old", old) for other in order[at + 1:] for old in needs[other]}
        here = {("old", old) for old in needs[block]}
        new = {("new", other) for other in order}
        free = [cell for cell in range(cells) if state[cell] not in new | here | later]
        over = [cell for cell in range(cells) if state[cell] in here - later] if loose and not free else []
        if not free + over:
            return None
        course.append(("make", block, (free + over)[0]))
        state = plain_done(state, course[-1])
    return course


class PlanTest(ErrorChecks, unittest.TestCase):
    def test_can_be_exactly_if_some_course_is_found(self):
        pairs = [pair for pair in every_pair(2, 2) if len(pair[1]) < 3]
        for many, needs in pairs + [(1, [[0], [], [0]]), (3, [[0, 1, 2]]), (0, [[], [], []]), (3, [[2], [0, 1]])]:
            for cells in range(1, 5):
                can = plain_can_be(many, needs, cells)
                self.assertIs(can_be(Recipe(many, needs), cells), can)
                self.assertEqual(can, cells >= plain_least_cells(many, needs))

    def test_can_be_from_the_least_cells_on(self):
        for many, needs in small_pairs() + [(60, [[59]])]:
            recipe = Recipe(many, needs)
            least = plain_least_cells(many, needs)
            self.assertEqual(least, least_cells(recipe))
            for cells in range(1, least + 4):
                self.assertIs(can_be(recipe, cells), cells >= least)

    def check_plan(self, many, needs, cells):
        recipe = Recipe(many, needs)
        told = plan(recipe, cells)
        self.assertTrue(is_plain_plan(many, needs, cells, told), (many, needs, cells, told))
        self.assertIs(is_plan(recipe, cells, told), True)
        self.assertIs(makes_image(recipe, cells, told), True)
        return told

    def test_plans_with_as_many_cells_as_needed_and_more(self):
        for many, needs in small_pairs():
            least = plain_least_cells(many, needs)
            for cells in [least, least + 1, least + 3, 16]:
                self.check_plan(many, needs, cells)
            for cells in range(1, least):
                self.assert_error(errors.Refused, cells, plan, Recipe(many, needs), cells)

    def test_plans_of_great_recipes(self):
        chance = random.Random(48)
        for many, needs in great_pairs() + [(8, some_needs(chance, 8, 8)) for _ in range(20)]:
            recipe = Recipe(many, needs)
            for cells in range(least_cells(recipe), 17):
                told = self.check_plan(many, needs, cells)
                if len(told) <= 12:
                    self.assertIs(stands(recipe, cells, told), True)
            cells = least_cells(recipe) - 1
            self.assert_error(errors.Refused, cells, plan, recipe, cells)

    def test_no_cell_is_spare_at_the_end(self):
        # As many cells as new blocks: the last block needs nothing, and the others are led ahead of it.
        for many, needs in [(0, [[], [], []]), (1, [[], [0], []]), (2, [[], [], [0, 1]]), (2, [[1], [], [], [0]])]:
            cells = len(needs)
            self.assertEqual(plain_least_cells(many, needs), cells)
            self.check_plan(many, needs, cells)
            self.check_plan(many, needs, cells + 1)
        self.check_plan(0, [[]], 1)

    def test_plans_with_many_things_to_lead(self):
        # The blocks can be made only in an order that leaves none of them in its place.
        for size in (4, 6, 8):
            needs = [list(range(at + 1)) for at in range(size)]
            for cells in (size + 1, size + 2, 16):
                self.check_plan(size, needs, cells)
            self.check_plan(size, [list(range(size - at)) for at in range(size)], size + 1)
            self.check_plan(size, [[(at + 1) % size] for at in range(size)], size + 1)

    def test_is_plan_of_other_lists(self):
        for many, needs in [SWAP, CHAIN, (1, [[0], []]), (0, [[], []]), (2, [[0, 1]])]:
            recipe = Recipe(many, needs)
            least = plain_least_cells(many, needs)
            for cells in range(1, least + 3):
                others = [[], [("copy", 0, 0)]]
                if cells >= least:
                    told = plan(recipe, cells)
                    others += [told[:at] + told[at + 1:] for at in range(len(told))] + [tuple(told)]
                    others += [told + [deed] for deed in all_deeds(len(needs), cells)]
                    others += [[deed] + told for deed in all_deeds(len(needs), cells)]
                    others += [told[:at] + [told[at]] + told[at:] for at in range(len(told))]
                for other in others:
                    right = is_plain_plan(many, needs, cells, other)
                    self.assertIs(is_plan(recipe, cells, other), right, (cells, other))

    def test_plans_of_at_most_so_many_deeds(self):
        for many, needs in [SWAP, CHAIN, (1, [[]])]:
            recipe = Recipe(many, needs)
            cells = plain_least_cells(many, needs) + 1
            told = plan(recipe, cells)
            longest = told + [("copy", 0, cells - 1)] * (len(needs) + 2 * cells - len(told))
            self.assertIs(is_plan(recipe, cells, longest), True)
            self.assertIs(is_plan(recipe, cells, longest + longest[-1:]), False)
            self.assertIs(makes_image(recipe, cells, longest + longest[-1:]), True)

    def test_is_plan_with_fewer_cells_than_old_blocks(self):
        recipe = Recipe(3, [[0]])
        good = [("make", 0, 1), ("copy", 1, 0)]
        for cells in (1, 2):
            for thing in any_objects() + [good, []]:
                self.assertIs(is_plan(recipe, cells, thing), False)
            self.assert_error(errors.Refused, cells, plan, recipe, cells)
        self.assertIs(is_plan(recipe, 3, good), True)

    def test_is_plan_of_any_object(self):
        for many, needs in [(1, [[0]]), SWAP, (0, [[]]), (2, [[]])]:
            for cells in (1, 2, 3):
                for thing in any_objects():
                    right = is_plain_plan(many, needs, cells, thing)
                    self.assertIs(is_plan(Recipe(many, needs), cells, thing), right, repr(thing))


class MakesTest(ErrorChecks, unittest.TestCase):
    def test_makes_by(self):
        for many, needs in small_pairs()[::3] + [CHAIN, TREE, SWAP]:
            recipe = Recipe(many, needs)
            for order, width in plain_orders(needs)[::7]:
                for cells in range(1, max(many, width) + 3):
                    if cells < many or cells <= width:
                        self.assert_error(errors.Refused, order, makes_by, recipe, cells, order)
                        continue
                    course = plain_makes(many, needs, cells, order, False)
                    self.assertEqual(makes_by(recipe, cells, order), course)
                    self.assertIs(plain_walk(many, needs, cells, course)[1], None)

    def test_loose_makes(self):
        for many, needs in small_pairs()[::3] + [CHAIN, TREE, SWAP]:
            recipe = Recipe(many, needs)
            for order, width in plain_orders(needs)[::7]:
                for cells in range(1, max(many, width, len(needs)) + 3):
                    if cells < max(many, len(needs), width):
                        self.assert_error(errors.Refused, order, loose_makes, recipe, cells, order)
                        continue
                    course = plain_makes(many, needs, cells, order, True)
                    self.assertEqual(loose_makes(recipe, cells, order), course)
                    self.check_loose(many, needs, cells, course)

    def check_loose(self, many, needs, cells, course):
        """Without cuts each block that is needed lies there, the written cell counted, and all new ones at the end."""
        state = [("old", cell) if cell < many else None for cell in range(cells)]
        for deed in course:
            self.assertLessEqual({("old", old) for old in needs[deed[1]]}, set(state))
            state = plain_done(state, deed)
        self.assertLessEqual({("new", block) for block in range(len(needs))}, set(state))

    def test_great_recipes(self):
        chance = random.Random(49)
        for many, needs in great_pairs():
            recipe = Recipe(many, needs)
            for _ in range(5):
                order = chance.sample(range(8), 8)
                self.assertEqual(makes_by(recipe, 16, order), plain_makes(many, needs, 16, order, False))
                for cells in range(8, 17):
                    course = plain_makes(many, needs, cells, order, True)
                    if course is not None:
                        self.assertEqual(loose_makes(recipe, cells, order), course)

    def test_cells_of_idle_old_blocks_are_free(self):
        recipe = Recipe(4, [[2], [3]])
        self.assertEqual(makes_by(recipe, 4, [1, 0]), [("make", 1, 0), ("make", 0, 1)])
        self.assertEqual(makes_by(recipe, 5, [0, 1]), [("make", 0, 0), ("make", 1, 1)])
        self.assertEqual(loose_makes(recipe, 4, [0, 1]), [("make", 0, 0), ("make", 1, 1)])

    def test_more_new_blocks_than_the_width(self):
        recipe = Recipe(1, [[0], []])
        for order, cells in (([0, 1], 1), ([1, 0], 1)):
            self.assert_error(errors.Refused, order, loose_makes, recipe, cells, order)
        self.assertEqual(loose_makes(recipe, 2, [0, 1]), [("make", 0, 1), ("make", 1, 0)])
        self.assertEqual(loose_makes(recipe, 2, [1, 0]), [("make", 1, 1), ("make", 0, 0)])

    def test_refused_comes_behind_what_is_no_order(self):
        recipe = Recipe(3, [[0, 1, 2], [0]])
        for function in (makes_by, loose_makes):
            for order in (None, [0], [0, 0], (0, 1), [0, True], [1, 0, 2]):
                self.assert_error(errors.InvalidOrder, order, function, recipe, 1, order)
            order = [1, 0]
            self.assert_error(errors.Refused, order, function, recipe, 1, order)


def plain_fewest(cells, spots, aims):
    """The least number of copies found by going through all that can lie in the cells, None if none will do."""
    things = range(len(spots))
    first = tuple(spots.index(cell) if cell in spots else None for cell in range(cells))
    seen, todo = {first: 0}, [first]
    for lying in todo:
        if all(lying[aims[thing]] == thing for thing in things):
            return seen[lying]
        for start, cell in product(range(cells), repeat=2):
            if set(things) <= set(lying[:cell] + lying[cell + 1:]):
                later = lying[:cell] + (lying[start],) + lying[cell + 1:]
                if later not in seen:
                    seen[later] = seen[lying] + 1
                    todo.append(later)
    return None


def plain_leads(cells, spots, aims, copies):
    """Whether copies lead all things to their aims, each of them whole ahead of each copy."""
    things = range(len(spots))
    lying = [spots.index(cell) if cell in spots else None for cell in range(cells)]
    for start, cell in copies:
        if not set(things) <= set(lying[:cell] + lying[cell + 1:]):
            return False
        lying[cell] = lying[start]
    return all(lying[aims[thing]] == thing for thing in things)


def plain_rings(spots, aims):
    """How many rings there are of things that lie in one another's aims."""
    behind = {spot: aim for spot, aim in zip(spots, aims) if spot != aim}
    rings = 0
    while behind:
        start, at = behind.popitem()
        while at in behind:
            at = behind.pop(at)
        rings += at == start
    return rings


class MovesTest(ErrorChecks, unittest.TestCase):
    def test_all_things_in_few_cells(self):
        for cells in range(1, 5):
            for many in range(cells + 1):
                for spots in map(list, permutations(range(cells), many)):
                    for aims in map(list, permutations(range(cells), many)):
                        self.check_moves(cells, spots, aims)

    def check_moves(self, cells, spots, aims):
        fewest = plain_fewest(cells, spots, aims)
        if fewest is None:
            self.assert_error(errors.Refused, cells, fewest_moves, cells, spots, aims)
            self.assert_error(errors.Refused, cells, moves, cells, spots, aims)
            for thing in ([], [(0, 1)], [(0, 1), (1, 0)], None):
                self.assertIs(is_moves(cells, spots, aims, thing), False)
            return
        self.assertEqual(fewest_moves(cells, spots, aims), fewest)
        told = moves(cells, spots, aims)
        self.assertEqual((len(told), plain_leads(cells, spots, aims, told)), (fewest, True))
        self.assertIs(is_moves(cells, spots, aims, told), True)
        astray = sum(spot != aim for spot, aim in zip(spots, aims))
        self.assertEqual(fewest, astray + plain_rings(spots, aims))

    def test_is_moves_of_all_lists_of_copies(self):
        for cells, spots, aims in [
                (3, [0, 1], [1, 0]), (3, [0, 1], [1, 2]), (2, [0], [1]), (2, [], []), (3, [0, 1, 2], [0, 1, 2]),
                (3, [0, 1], [0, 1]), (2, [0, 1], [1, 0]), (3, [2, 0], [1, 0]), (4, [0, 1, 3], [1, 0, 3])]:
            fewest = plain_fewest(cells, spots, aims)
            copies = list(product(range(cells), repeat=2))
            for many in range(3 if cells == 4 else 4):
                for told in map(list, product(copies, repeat=many)):
                    right = many == fewest and plain_leads(cells, spots, aims, told)
                    self.assertIs(is_moves(cells, spots, aims, told), right, (cells, spots, aims, told))

    def test_many_things_on_sixteen_cells(self):
        chance = random.Random(50)
        for many in (0, 1, 7, 12, 15, 16):
            for _ in range(10):
                spots, aims = chance.sample(range(16), many), chance.sample(range(16), many)
                if many == 16:
                    aims = list(spots)
                told = moves(16, spots, aims)
                self.assertTrue(plain_leads(16, spots, aims, told))
                self.assertEqual(len(told), fewest_moves(16, spots, aims))
                astray = sum(spot != aim for spot, aim in zip(spots, aims))
                self.assertEqual(len(told), astray + plain_rings(spots, aims))
                self.assertIs(is_moves(16, spots, aims, told), True)
                for other in (told + [(0, 0)], told[:-1], told[::-1]):
                    right = len(other) == len(told) and plain_leads(16, spots, aims, other)
                    self.assertIs(is_moves(16, spots, aims, other), right)

    def test_rings_of_things(self):
        spots = [0, 1, 2, 3, 4, 5]
        self.assertEqual(fewest_moves(7, spots, [1, 0, 3, 2, 5, 4]), 9)
        self.assertEqual(fewest_moves(7, spots, [1, 2, 0, 4, 5, 3]), 8)
        self.assertEqual(fewest_moves(7, spots, [1, 2, 3, 4, 5, 0]), 7)
        self.assertEqual(fewest_moves(7, spots, [1, 2, 3, 4, 5, 6]), 6)
        self.assertEqual(fewest_moves(7, spots, [1, 0, 2, 3, 4, 6]), 4)

    def test_no_thing_to_lead_and_no_free_cell(self):
        self.assertEqual((fewest_moves(1, [], []), moves(1, [], [])), (0, []))
        self.assertEqual((fewest_moves(2, [1, 0], [1, 0]), moves(2, [1, 0], [1, 0])), (0, []))
        self.assertIs(is_moves(2, [1, 0], [1, 0], []), True)
        self.assertIs(is_moves(2, [1, 0], [1, 0], [(0, 0)]), False)
        for function in (fewest_moves, moves):
            self.assert_error(errors.Refused, 2, function, 2, [1, 0], [0, 1])
        self.assertIs(is_moves(2, [1, 0], [0, 1], []), False)

    def test_refused_comes_behind_all_others(self):
        for function in (fewest_moves, moves):
            for wrong in (None, [0], [0, 0], [0, 2], [1, True], (1, 0), [0, 1, 2]):
                self.assert_error(errors.InvalidOrder, wrong, function, 2, [0, 1], wrong)
                if wrong != [0]:
                    self.assert_error(errors.InvalidOrder, wrong, function, 2, wrong, [0, 1])
            spots, aims = [0], [0, 1]
            self.assert_error(errors.InvalidOrder, aims, function, 2, spots, aims)
            spots, aims = [5], [6]
            self.assert_error(errors.InvalidOrder, spots, function, 5, spots, aims)

    def test_is_moves_of_any_object(self):
        for cells, spots, aims in [(3, [0, 1], [1, 0]), (2, [0], [1]), (2, [1], [0]), (1, [0], [0]),
                (2, [0, 1], [1, 0])]:
            fewest = plain_fewest(cells, spots, aims)
            for thing in any_objects() + [[(0, True)], [(False, 1)], [(True, 0)], [(1, False)], [(0, -1)]]:
                pairs = type(thing) is list and all(type(item) is tuple and len(item) == 2 for item in thing)
                pairs = pairs and all(type(cell) is int and 0 <= cell < cells for item in thing for cell in item)
                right = bool(pairs) and len(thing) == fewest and plain_leads(cells, spots, aims, thing)
                self.assertIs(is_moves(cells, spots, aims, thing), right, repr(thing))


class UnchangedTest(unittest.TestCase):
    def test_changing_a_result_changes_no_later_one(self):
        swap = Recipe(*SWAP)
        order, spots, aims = [1, 0], [0, 1], [1, 0]
        calls = [(plan, (swap, 3)), (makes_by, (swap, 3, order)), (loose_makes, (swap, 2, order))]
        for function, arguments in calls + [(moves, (3, spots, aims))]:
            told = function(*arguments)
            kept = repr(told)
            again = function(*arguments)
            told.append(7)
            self.assertEqual((repr(again), repr(function(*arguments))), (kept, kept))
        self.assertEqual((order, spots, aims), ([1, 0], [0, 1], [1, 0]))
