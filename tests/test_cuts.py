"""Points [42] to [46]: ordinary inputs and edges."""
import random
import unittest
from itertools import combinations, combinations_with_replacement, product

from sparecells import errors
from sparecells.cuts import (
    can_lie, day, harmless, is_spoiling, many_ends, spoiling, stands, sure_cells, worst_day)
from sparecells.recipes import Recipe
from tests.plain import is_plain_cuts, plain_cut, plain_done_any
from tests.support import CHAIN, TREE, ErrorChecks, any_objects, great_pairs, small_pairs
from tests.test_courses import SWAP, all_contents, all_deeds, right_course

# Tiny ones, of which all short courses are gone through, each with a number of cells.
TINY = [((1, [[0]]), 2), ((0, [[], []]), 2), (SWAP, 2), ((1, [[]]), 1), ((2, [[0, 1]]), 3)]


def plain_day(pair, cells, course, fallen):
    state = [("old", cell) if cell < pair[0] else None for cell in range(cells)]
    for at, deed in enumerate(course):
        for _ in range(fallen.count(at)):
            state = plain_cut(state, deed)
        state = plain_done_any(pair[1], state, deed)
    return state


def plain_ends(pair, cells, course):
    """The end of each list of different cuts, by the tuple of these."""
    places = range(len(course))
    every = [fallen for many in range(len(course) + 1) for fallen in combinations(places, many)]
    return {fallen: plain_day(pair, cells, course, fallen) for fallen in every}


def any_course(chance, pair, cells, length):
    """A course of deeds, most of which are right in the state without cuts or copy a cell onto itself."""
    state = [("old", cell) if cell < pair[0] else None for cell in range(cells)]
    course = []
    for _ in range(length):
        deeds = all_deeds(len(pair[1]), cells)
        lively = [deed for deed in deeds if deed[0] == "make" or deed[1] == deed[2] or state[deed[1]] is not None]
        course.append(chance.choice(lively if chance.random() < 0.8 else deeds))
        state = plain_done_any(pair[1], state, course[-1])
    return course


class AllCutsTest(unittest.TestCase):
    def check_course(self, pair, cells, course):
        recipe = Recipe(*pair)
        ends = plain_ends(pair, cells, course)
        whole = ends[()]
        spoilt = [fallen for fallen in ends if ends[fallen] != whole]
        fewest = min(map(len, spoilt), default=None)
        self.assertIs(stands(recipe, cells, course), not spoilt)
        self.assertEqual(many_ends(recipe, cells, course), len({tuple(end) for end in ends.values()}))
        worst = ends[tuple(range(len(course)))]
        self.assertEqual(worst_day(recipe, cells, course), worst)
        self.assertEqual(not spoilt, worst == whole)
        told = spoiling(recipe, cells, course)
        if fewest is None:
            self.assertIs(told, None)
        else:
            self.assertEqual((len(told), tuple(told) in spoilt), (fewest, True))
            self.assertIs(is_spoiling(recipe, cells, course, told), True)
        for cell in range(cells):
            contents = {end[cell] for end in ends.values()}
            lying = [None] * (None in contents) + sorted(contents - {None})
            self.assertEqual(can_lie(recipe, cells, course, cell), lying)
        sure = [cell for cell in range(cells) if all(end[cell] == whole[cell] for end in ends.values())]
        self.assertEqual(sure_cells(recipe, cells, course), sure)
        alone = [at for at in range(len(course)) if ends[(at,)] == whole]
        self.assertEqual(harmless(recipe, cells, course), alone)
        if all(deed[0] == "make" or deed[1] != deed[2] for deed in course):
            self.assertEqual(len(alone) == len(course), not spoilt)
        return fewest

    def test_all_short_courses(self):
        for pair, cells in TINY:
            for length in range(4 if cells < 3 and len(pair[1]) < 2 else 3):
                for course in product(all_deeds(len(pair[1]), cells), repeat=length):
                    self.check_course(pair, cells, list(course))

    def test_some_courses(self):
        chance = random.Random(42)
        fewest = []
        for pair in small_pairs()[::3] + [SWAP, CHAIN, TREE]:
            for length in (1, 4, 7):
                cells = max(1, pair[0]) + chance.randrange(3)
                fewest.append(self.check_course(pair, cells, any_course(chance, pair, cells, length)))
        self.assertEqual(set(fewest), {None, 1})

    def test_twelve_deeds_on_ten_cells(self):
        chance = random.Random(43)
        for pair in great_pairs():
            self.check_course(pair, 10, any_course(chance, pair, 10, 12))

    def test_twelve_copies_of_cells_onto_themselves(self):
        pair = (8, [[0]])
        # Each of these cuts spoils a cell of its own.
        course = [("make", 0, cell) for cell in range(8, 12)] + [("copy", cell, cell) for cell in range(8)]
        self.check_course(pair, 12, course)
        self.assertEqual(many_ends(Recipe(*pair), 12, course), 2 ** 8)

    def test_copies_of_a_cell_onto_itself_that_spoil_together(self):
        pair = (1, [[0]])
        twice = [("copy", 0, 1), ("copy", 0, 0), ("make", 0, 1), ("copy", 1, 0)]
        self.assertEqual(self.check_course(pair, 2, twice), 2)
        # The make reads any of three cells, so all three have to fail.
        thrice = [("copy", 0, 1), ("copy", 0, 2), ("copy", 0, 0), ("copy", 1, 1), ("copy", 2, 2), ("make", 0, 3)]
        thrice += [("copy", 3, 0), ("copy", 3, 1), ("copy", 3, 2)]
        self.assertEqual(self.check_course(pair, 4, thrice), 3)
        self.assertEqual(spoiling(Recipe(*pair), 4, thrice), [2, 3, 4])
        self.assertEqual(harmless(Recipe(*pair), 4, thrice), list(range(9)))


class DayTest(ErrorChecks, unittest.TestCase):
    def test_all_cuts_also_several_amid_one_deed(self):
        chance = random.Random(44)
        for pair in [SWAP, CHAIN, TREE, (1, [[0], []]), (0, [[]])]:
            recipe = Recipe(*pair)
            for length in range(5):
                cells = max(1, pair[0]) + 1
                course = any_course(chance, pair, cells, length)
                fewest = spoiling(recipe, cells, course)
                for many in range(4):
                    for fallen in map(list, combinations_with_replacement(range(length), many)):
                        end = plain_day(pair, cells, course, fallen)
                        self.assertEqual(day(recipe, cells, course, fallen), end)
                        spoils = fewest is not None and len(fallen) == len(fewest)
                        spoils = spoils and end != plain_day(pair, cells, course, [])
                        self.assertIs(is_spoiling(recipe, cells, course, fallen), spoils)
                        self.assertIs(is_spoiling(recipe, cells, course, tuple(fallen)), False)

    def test_days_of_forty_deeds_and_ten_cuts(self):
        chance = random.Random(45)
        for pair in great_pairs():
            for _ in range(10):
                course = any_course(chance, pair, 16, 40)
                fallen = sorted(chance.choice(range(40)) for _ in range(10))
                self.assertEqual(day(Recipe(*pair), 16, course, fallen), plain_day(pair, 16, course, fallen))

    def test_deeds_that_are_wrong_are_done_all_the_same(self):
        swap = Recipe(*SWAP)
        # The written cell counts, too, unless the power fell there.
        self.assertEqual(day(swap, 2, [("make", 0, 1)], []), [("old", 0), ("new", 0)])
        self.assertEqual(day(swap, 2, [("make", 0, 1)], [0]), [("old", 0), None])
        self.assertEqual(day(swap, 3, [("make", 0, 2)], [0, 0, 0]), [("old", 0), ("old", 1), ("new", 0)])
        # A make that lacks something writes nothing of worth, a copy of nothing as well.
        course = [("copy", 2, 1), ("make", 0, 0)]
        self.assertEqual(day(swap, 3, course, []), [None, None, None])
        self.assertEqual(day(swap, 3, [("copy", 0, 0)], []), [("old", 0), ("old", 1), None])
        self.assertEqual(day(swap, 3, [("copy", 0, 0)], [0]), [None, ("old", 1), None])
        self.assertIs(stands(swap, 3, [("copy", 2, 2)]), True)

    def test_a_make_that_reads_the_cell_that_it_writes(self):
        recipe = Recipe(1, [[0]])
        course = [("make", 0, 0)]
        self.assertEqual(day(recipe, 1, course, []), [("new", 0)])
        self.assertEqual(worst_day(recipe, 1, course), [None])
        self.assertIs(stands(recipe, 1, course), False)
        self.assertEqual((spoiling(recipe, 1, course), harmless(recipe, 1, course)), ([0], []))
        self.assertEqual(can_lie(recipe, 1, course, 0), [None, ("new", 0)])

    def test_a_cut_that_spoils_only_later_deeds(self):
        recipe = Recipe(1, [[0], [0]])
        course = [("copy", 0, 0), ("make", 1, 1), ("make", 0, 0)]
        self.assertEqual(day(recipe, 2, course, [0]), [None, None])
        self.assertEqual(day(recipe, 2, course, [2]), [None, ("new", 1)])
        self.assertEqual(sure_cells(recipe, 2, course), [])
        self.assertEqual(sure_cells(recipe, 2, course[1:]), [1])

    def test_the_empty_course(self):
        for pair in small_pairs()[::5] + great_pairs():
            recipe = Recipe(*pair)
            cells = max(1, pair[0])
            first = plain_day(pair, cells, [], [])
            self.assertEqual((day(recipe, cells, [], []), worst_day(recipe, cells, [])), (first, first))
            self.assertIs(stands(recipe, cells, []), True)
            self.assertEqual((many_ends(recipe, cells, []), spoiling(recipe, cells, [])), (1, None))
            self.assertEqual((harmless(recipe, cells, []), sure_cells(recipe, cells, [])), ([], list(range(cells))))
            self.assertEqual([can_lie(recipe, cells, [], cell) for cell in range(cells)], [[item] for item in first])
            self.assertIs(is_spoiling(recipe, cells, [], []), False)
            cuts = [0]
            self.assert_error(errors.InvalidCuts, cuts, day, recipe, cells, [], cuts)

    def test_right_courses_stand(self):
        chance = random.Random(46)
        for pair in small_pairs()[::2] + great_pairs():
            recipe = Recipe(*pair)
            cells = max(pair[0], len(pair[1])) + 2
            course = right_course(chance, *pair, cells, 12)
            self.assertIs(stands(recipe, cells, course), True)
            self.assertEqual((many_ends(recipe, cells, course), spoiling(recipe, cells, course)), (1, None))
            self.assertEqual(harmless(recipe, cells, course), list(range(len(course))))
            self.assertEqual(sure_cells(recipe, cells, course), list(range(cells)))

    def test_with_more_cuts_each_cell_has_the_same_or_nothing(self):
        chance = random.Random(47)
        for pair in small_pairs()[::4]:
            recipe = Recipe(*pair)
            cells = max(1, pair[0]) + 1
            course = any_course(chance, pair, cells, 8)
            fewer = sorted(chance.sample(range(8), 3))
            more = sorted(fewer + chance.sample(range(8), 3))
            ends = [day(recipe, cells, course, fallen) for fallen in (fewer, more)]
            self.assertTrue(all(late in (early, None) for early, late in zip(*ends)))


class ContentsTest(unittest.TestCase):
    def test_contents_that_can_lie_ascend_behind_none(self):
        for pair in [SWAP, (2, [[0], [1], []])]:
            recipe = Recipe(*pair)
            for content in all_contents(*[pair[0], len(pair[1])])[1:]:
                word, block = content
                deeds = [("make", block, 2)] if word == "new" else [("copy", block, 2)]
                told = can_lie(recipe, 4, deeds + [("copy", 2, 3), ("copy", 2, 2)], 2)
                self.assertEqual(told, [None, content])
                self.assertEqual(can_lie(recipe, 4, deeds + [("copy", 2, 3), ("copy", 2, 2)], 3), [content])


class JudgesTest(ErrorChecks, unittest.TestCase):
    def test_is_spoiling_of_any_object(self):
        swap = Recipe(*SWAP)
        both = [("make", 0, 1), ("make", 1, 0)]
        twice = [("copy", 0, 1), ("copy", 0, 0), ("make", 0, 1), ("copy", 1, 0)]
        for recipe, cells, course, right in [
                (swap, 2, both, [[0], [1]]), (swap, 3, [], []), (Recipe(1, [[0]]), 2, twice, [[1, 2]])]:
            for thing in any_objects() + [[0], [1], [1, 2], [2, 1], [1, 1], [1, 3], [0, 1, 2]]:
                self.assertIs(is_spoiling(recipe, cells, course, thing), repr(thing) in map(repr, right), repr(thing))

    def test_cuts_that_are_none(self):
        swap = Recipe(*SWAP)
        course = [("make", 0, 2), ("make", 1, 1), ("copy", 2, 0)]
        for thing in any_objects() + [[0, 1, 2, 2], [2, 1], [0, 2, 1], [3], [-1], [0, True], (0, 1)]:
            if is_plain_cuts(course, thing):
                self.assertEqual(day(swap, 3, course, thing), day(swap, 3, course, []))
            else:
                self.assert_error(errors.InvalidCuts, thing, day, swap, 3, course, thing)

    def test_cells_at_the_edges(self):
        swap = Recipe(*SWAP)
        for cell in (3, -1, 99, True, None, "0"):
            self.assert_error(errors.InvalidCell, cell, can_lie, swap, 3, [], cell)
        self.assertEqual(can_lie(swap, 3, [], 2), [None])


class UnchangedTest(unittest.TestCase):
    def test_changing_a_result_changes_no_later_one(self):
        swap = Recipe(*SWAP)
        both = [("make", 0, 1), ("make", 1, 0)]
        fallen = [0]
        calls = [(day, (fallen,)), (worst_day, ()), (spoiling, ()), (can_lie, (0,)), (sure_cells, ()), (harmless, ())]
        for function, rest in calls:
            told = function(swap, 2, both, *rest)
            kept = repr(told)
            again = function(swap, 2, both, *rest)
            told.append(7)
            self.assertEqual((repr(again), repr(function(swap, 2, both, *rest))), (kept, kept))
        self.assertEqual((both, fallen), ([("make", 0, 1), ("make", 1, 0)], [0]))
