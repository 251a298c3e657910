"""Points [10] to [14]: ordinary inputs and edges."""
import unittest

from sparecells import errors
from sparecells.recipes import Recipe, beside, idle, needs_of, renumbered, turned, used, users_of, without
from tests.support import CHAIN, TREE, ErrorChecks, any_objects, every_pair, great_pairs, plain_lots, small_pairs

PAIRS = small_pairs() + great_pairs()


class RecipeTest(ErrorChecks, unittest.TestCase):
    def test_tells_what_it_is_made_of(self):
        for many, needs in PAIRS:
            recipe = Recipe(many, needs)
            self.assertEqual((recipe.many(), recipe.needs(), recipe.size()), (many, needs, len(needs)))
            self.assertEqual(Recipe(needs=needs, many=many), recipe)

    def test_least_recipe(self):
        recipe = Recipe(0, [[]])
        self.assertEqual((recipe.many(), recipe.needs(), recipe.size()), (0, [[]], 1))

    def test_is_equal_by_what_it_tells(self):
        pairs = every_pair(2, 2)
        for at, (many, needs) in enumerate(pairs):
            for other, (others, rows) in enumerate(pairs):
                self.assertIs(Recipe(many, needs) == Recipe(others, rows), at == other)
                self.assertIs(Recipe(many, needs) != Recipe(others, rows), at != other)

    def test_equals_no_object_of_another_class(self):
        recipe = Recipe(2, [[1], [0]])
        for thing in [2, [[1], [0]], (2, [[1], [0]]), None, True, {}, "Recipe(2, [[1], [0]])", errors.InvalidNeeds()]:
            self.assertIs(recipe == thing, False)
            self.assertIs(thing == recipe, False)
            self.assertIs(recipe != thing, True)

    def test_never_changes_with_the_passed_lists(self):
        needs = [[0, 1], [1]]
        recipe = Recipe(2, needs)
        needs[0].append(7)
        needs.append([])
        self.assertEqual(recipe.needs(), [[0, 1], [1]])
        self.assertEqual(recipe.size(), 2)

    def test_never_changes_with_the_returned_lists(self):
        recipe = Recipe(2, [[0, 1], [1]])
        told = recipe.needs()
        told[0].clear()
        told.pop()
        self.assertEqual(recipe.needs(), [[0, 1], [1]])
        self.assertEqual(recipe, Recipe(2, [[0, 1], [1]]))

    def test_leaves_the_passed_lists_as_they_were(self):
        needs = [[0, 1], [1]]
        Recipe(2, needs)
        self.assertEqual(needs, [[0, 1], [1]])

    def test_wrong_counts(self):
        for thing in any_objects():
            if type(thing) is not int or thing < 0:
                self.assert_error(errors.InvalidCount, thing, Recipe, thing, [[]])
                self.assert_error(errors.InvalidCount, thing, Recipe, thing, None)

    def test_wrong_needs(self):
        wrong = [None, True, False, 0, -1, "", "[[0]]", [], (), ([0],), {}, {0: [0]}, [0], [None], [True], ["0"], [()]]
        wrong += [[(0,)], [{}], [{0}], [[0], 1], [[0], (1,)], [[0], None], [[0, 0]], [[1, 0]], [[0], [1, 0]], [[2]]]
        wrong += [[[0, 2]], [[-1]], [[-1, 0]], [[True]], [[False]], [[0, True]], [[False, 1]], [["0"]], [[None]]]
        wrong += [[[[0]]], [[0], [[1]]], [[(0,)]], [[10 ** 30]], Recipe(2, [[0]]), [Recipe(2, [[0]])]]
        wrong += [errors.InvalidNeeds(), [[errors.CellsError()]]]
        for thing in wrong:
            self.assert_error(errors.InvalidNeeds, thing, Recipe, 2, thing)
            self.assert_error(errors.InvalidCount, None, Recipe, None, thing)

    def test_needs_within_the_count(self):
        needs = [[0]]
        self.assert_error(errors.InvalidNeeds, needs, Recipe, 0, needs)
        self.assertEqual(Recipe(1, needs).needs(), [[0]])


class BlocksTest(unittest.TestCase):
    def test_needs_and_users(self):
        for many, needs in PAIRS:
            recipe = Recipe(many, needs)
            for block, row in enumerate(needs):
                self.assertEqual(needs_of(recipe, block), row)
            for old in range(many):
                self.assertEqual(users_of(recipe, old), [block for block in range(len(needs)) if old in needs[block]])

    def test_used_and_idle(self):
        for many, needs in PAIRS:
            recipe = Recipe(many, needs)
            busy = [old for old in range(many) if any(old in row for row in needs)]
            self.assertEqual(used(recipe), busy)
            self.assertEqual(idle(recipe), [old for old in range(many) if old not in busy])

    def test_examples(self):
        tree = Recipe(*TREE)
        self.assertEqual(users_of(tree, 3), [1, 3])
        self.assertEqual(needs_of(tree, 0), [0, 1, 2])
        self.assertEqual(idle(Recipe(4, [[2], [], [2]])), [0, 1, 3])
        self.assertEqual(used(Recipe(60, [[16, 40], [8, 59], [0, 33]])), [0, 8, 16, 33, 40, 59])
        self.assertEqual((used(Recipe(0, [[]])), idle(Recipe(0, [[]]))), ([], []))


class MadeOfOthersTest(ErrorChecks, unittest.TestCase):
    def test_beside(self):
        for many, needs in small_pairs():
            for others, rows in [CHAIN, TREE, (0, [[]]), (2, [[1], [0]])]:
                both = beside(Recipe(many, needs), Recipe(others, rows))
                self.assertEqual(both.many(), many + others)
                self.assertEqual(both.needs(), needs + [[old + many for old in row] for row in rows])

    def test_beside_itself(self):
        chain = Recipe(*CHAIN)
        self.assertEqual(beside(chain, chain), Recipe(6, [[0, 1], [1, 2], [2], [3, 4], [4, 5], [5]]))
        self.assertEqual(chain, Recipe(*CHAIN))

    def test_without(self):
        for many, needs in small_pairs():
            recipe = Recipe(many, needs)
            for lot in plain_lots(len(needs)):
                if len(lot) < len(needs):
                    rest = without(recipe, lot)
                    self.assertEqual(rest.many(), many)
                    self.assertEqual(rest.needs(), [row for block, row in enumerate(needs) if block not in lot])

    def test_without_all_blocks_is_refused(self):
        for many, needs in PAIRS:
            lot = list(range(len(needs)))
            self.assert_error(errors.Refused, lot, without, Recipe(many, needs), lot)

    def test_renumbered(self):
        tree = Recipe(*TREE)
        self.assertEqual(renumbered(tree, [3, 0, 2, 1]), Recipe(5, [[3], [0, 1, 2], [0], [3, 4]]))
        for many, needs in PAIRS:
            size = len(needs)
            order = [(block + 1) % size for block in range(size)]
            self.assertEqual(renumbered(Recipe(many, needs), order), Recipe(many, needs[1:] + needs[:1]))
            self.assertEqual(renumbered(Recipe(many, needs), list(range(size))), Recipe(many, needs))

    def test_turned(self):
        self.assertEqual(turned(Recipe(*CHAIN)), Recipe(3, [[0], [0, 1], [1, 2]]))
        self.assertEqual(turned(Recipe(3, [[], [1]])), Recipe(2, [[], [1], []]))
        for many, needs in PAIRS:
            if many > 0:
                about = turned(Recipe(many, needs))
                self.assertEqual((about.many(), about.size()), (len(needs), many))
                for old in range(many):
                    for block in range(len(needs)):
                        self.assertEqual(block in about.needs()[old], old in needs[block])

    def test_turned_twice_is_itself(self):
        for many, needs in PAIRS:
            if many > 0:
                self.assertEqual(turned(turned(Recipe(many, needs))), Recipe(many, needs))

    def test_turned_without_old_blocks_is_refused(self):
        for needs in ([[]], [[], [], []]):
            recipe = Recipe(0, needs)
            self.assert_error(errors.Refused, recipe, turned, recipe)
