"""Points [33] to [37]: ordinary inputs and edges."""
import random
import unittest
from itertools import product

from sparecells import errors
from sparecells.courses import (
    behind, busiest, first_state, first_wrong, is_course, is_made, is_state, lacking, lost, lots_passed, makes_image,
    states, why_wrong)
from sparecells.recipes import Recipe
from sparecells.straightening import is_row
from tests.plain import is_plain_course, is_plain_state, plain_done, plain_wrongs
from tests.support import CHAIN, TREE, ErrorChecks, any_objects, every_pair, great_pairs, plain_held, small_pairs

SWAP = (2, [[1], [0]])


def all_contents(many, size):
    return [None] + [("old", block) for block in range(many)] + [("new", block) for block in range(size)]


def all_deeds(size, cells):
    makes = [("make", block, cell) for block in range(size) for cell in range(cells)]
    return makes + [("copy", start, cell) for start in range(cells) for cell in range(cells)]


def plain_walk(many, needs, cells, course):
    """The states up to the first wrong deed, and the position of that one or None."""
    found = [[("old", cell) if cell < many else None for cell in range(cells)]]
    for at, deed in enumerate(course):
        if plain_wrongs(needs, found[-1], deed):
            return found, at
        found.append(plain_done(found[-1], deed))
    return found, None


def plain_passed(found, course):
    lots = []
    for at, state in enumerate(found):
        written = course[at][2] if at < len(course) else None
        lots.append([block for block in range(60) if any(
            content == ("new", block) and cell != written for cell, content in enumerate(state))])
    return lots


def is_plain_made(needs, state):
    return len(state) >= len(needs) and all(state[block] == ("new", block) for block in range(len(needs)))


def right_course(chance, many, needs, cells, length):
    """A course of deeds that are right one behind the other, as far as chance finds any."""
    state = plain_walk(many, needs, cells, [])[0][0]
    course = []
    while len(course) < length:
        deeds = [deed for deed in all_deeds(len(needs), cells) if not plain_wrongs(needs, state, deed)]
        if not deeds:
            break
        makes = [deed for deed in deeds if deed[0] == "make"]
        course.append(chance.choice(makes if makes and chance.random() < 0.5 else deeds))
        state = plain_done(state, course[-1])
    return course


def some_pairs():
    return small_pairs()[::4] + [CHAIN, TREE, SWAP, (0, [[]]), (1, [[]]), (2, [[], [1]])]


class StatesTest(unittest.TestCase):
    def test_is_state_of_any_object(self):
        for many, needs in small_pairs():
            recipe = Recipe(many, needs)
            for thing in any_objects():
                self.assertIs(is_state(recipe, thing), is_plain_state(recipe, thing), repr(thing))

    def test_states_of_any_length(self):
        for pair in some_pairs():
            recipe = Recipe(*pair)
            contents = all_contents(pair[0], len(pair[1]))
            for length in (1, 2, 17, 60):
                for content in contents:
                    self.assertIs(is_state(recipe, [content] * length), True)
                    self.assertIs(is_state(recipe, [None] * length + [content]), True)
            self.assertIs(is_state(recipe, contents), True)
            self.assertIs(is_state(recipe, []), False)
            for wrong in (("old", pair[0]), ("new", len(pair[1])), "old", (), [], {}, 0, False):
                self.assertIs(is_state(recipe, contents + [wrong]), False)

    def test_first_state(self):
        for many, needs in some_pairs():
            for cells in range(max(1, many), many + 4):
                told = first_state(Recipe(many, needs), cells)
                self.assertEqual(told, [("old", old) for old in range(many)] + [None for _ in range(cells - many)])
        self.assertEqual(first_state(Recipe(0, [[]]), 1), [None])
        self.assertEqual(len(first_state(Recipe(8, [[0]]), 16)), 16)

    def test_made_lacking_and_lost(self):
        for many, needs in every_pair(1, 2) + [(2, [[0, 1], [1]]), (2, [[0], []])]:
            recipe = Recipe(many, needs)
            size = len(needs)
            for length in (1, 2, 3):
                for state in map(list, product(all_contents(many, size), repeat=length)):
                    away = [block for block in range(size) if block >= length or state[block] != ("new", block)]
                    self.assertEqual(lacking(recipe, state), away)
                    self.assertIs(is_made(recipe, state), not away)
                    gone = [block for block in range(size) if ("new", block) not in state]
                    gone = [block for block in gone if {("old", old) for old in needs[block]} - set(state)]
                    self.assertEqual(lost(recipe, state), gone)

    def test_short_and_long_states(self):
        chain = Recipe(*CHAIN)
        self.assertEqual(lacking(chain, [("new", 0)]), [1, 2])
        self.assertEqual(lacking(chain, [("new", 1), ("new", 0), ("new", 2)]), [0, 1])
        made = [("new", 0), ("new", 1), ("new", 2)]
        self.assertIs(is_made(chain, made), True)
        self.assertIs(is_made(chain, made + [None, ("old", 0), ("new", 0)]), True)
        self.assertIs(is_made(chain, made[:2]), False)
        self.assertIs(is_made(chain, [None] + made), False)
        self.assertEqual(lost(chain, [None]), [0, 1, 2])
        self.assertEqual(lost(chain, [("old", 2)]), [0, 1])
        self.assertEqual(lost(chain, [("old", 2), ("new", 0), ("old", 2)]), [1])
        self.assertEqual(lost(Recipe(0, [[]]), [None]), [])


class DeedsTest(ErrorChecks, unittest.TestCase):
    def check_deed(self, pair, state, deed):
        recipe = Recipe(*pair)
        wrong = plain_wrongs(pair[1], state, deed)
        self.assertEqual(why_wrong(recipe, state, deed), wrong)
        if wrong:
            self.assert_error(errors.Refused, deed, behind, recipe, state, deed)
        else:
            self.assertEqual(behind(recipe, state, deed), plain_done(state, deed))

    def test_all_deeds_in_all_states(self):
        for pair in [(2, [[0, 1], [1]]), (1, [[0], []]), (0, [[]]), (2, [[], [0]])]:
            for length in (1, 2, 3):
                for state in product(all_contents(pair[0], len(pair[1])), repeat=length):
                    for deed in all_deeds(len(pair[1]), length):
                        self.check_deed(pair, list(state), deed)

    def test_all_deeds_in_some_states(self):
        chance = random.Random(34)
        for many, needs in some_pairs() + great_pairs():
            for cells in (1, 5, 9, 16):
                state = [chance.choice(all_contents(many, len(needs))) for _ in range(cells)]
                for deed in all_deeds(len(needs), cells):
                    self.check_deed((many, needs), state, deed)

    def test_the_written_cell_holds_the_only_block_that_is_needed(self):
        swap = Recipe(*SWAP)
        state = [("old", 0), ("old", 1)]
        self.assertEqual(why_wrong(swap, state, ("make", 0, 1)), [("lacks", 1)])
        self.assertEqual(why_wrong(swap, state, ("make", 0, 0)), [])
        self.assertEqual(why_wrong(swap, state + [("old", 1)], ("make", 0, 1)), [])
        self.assertEqual(why_wrong(swap, [("old", 1)], ("make", 0, 0)), [("lacks", 1)])

    def test_more_than_one_thing_wrong(self):
        recipe = Recipe(3, [[0, 1, 2]])
        self.assertEqual(why_wrong(recipe, [None], ("make", 0, 0)), [("lacks", 0), ("lacks", 1), ("lacks", 2)])
        self.assertEqual(why_wrong(recipe, [("old", 1), ("old", 2)], ("make", 0, 1)), [("lacks", 0), ("lacks", 2)])
        self.assertEqual(why_wrong(recipe, [None], ("copy", 0, 0)), [("nothing",), ("same",)])
        self.assertEqual(why_wrong(recipe, [None, None], ("copy", 0, 1)), [("nothing",)])
        self.assertEqual(why_wrong(recipe, [("old", 1)], ("copy", 0, 0)), [("same",)])

    def test_copies_of_what_lies_there_already_are_right(self):
        recipe = Recipe(1, [[0]])
        for content in (("old", 0), ("new", 0)):
            self.assertEqual(why_wrong(recipe, [content, content], ("copy", 0, 1)), [])
            self.assertEqual(behind(recipe, [content, content], ("copy", 0, 1)), [content, content])

    def test_a_make_of_what_needs_nothing(self):
        recipe = Recipe(0, [[]])
        self.assertEqual(why_wrong(recipe, [None], ("make", 0, 0)), [])
        self.assertEqual(behind(recipe, [("new", 0), None], ("make", 0, 0)), [("new", 0), None])

    def test_cells_of_the_state(self):
        swap = Recipe(*SWAP)
        state = [("old", 0), ("old", 1), None]
        self.assertEqual(behind(swap, state, ("make", 0, 2)), [("old", 0), ("old", 1), ("new", 0)])
        for deed in (("make", 0, 3), ("copy", 3, 0), ("copy", 0, 3), ("make", 2, 2)):
            self.assert_error(errors.InvalidDeed, deed, why_wrong, swap, state, deed)
            self.assert_error(errors.InvalidDeed, deed, behind, swap, state, deed)
        # As many cells as the state has, also fewer than old blocks.
        self.assertEqual(why_wrong(swap, [None], ("make", 1, 0)), [("lacks", 0)])
        deed = ("make", 1, 1)
        self.assert_error(errors.InvalidDeed, deed, why_wrong, swap, [None], deed)


class CoursesTest(ErrorChecks, unittest.TestCase):
    def check_course(self, pair, cells, course):
        many, needs = pair
        recipe = Recipe(many, needs)
        found, wrong = plain_walk(many, needs, cells, course)
        self.assertIs(is_course(recipe, cells, course), True)
        self.assertEqual(first_wrong(recipe, cells, course), wrong)
        self.assertIs(makes_image(recipe, cells, course), wrong is None and is_plain_made(needs, found[-1]))
        if wrong is not None:
            for function in (states, lots_passed, busiest):
                self.assert_error(errors.Refused, course, function, recipe, cells, course)
            return
        lots = plain_passed(found, course)
        self.assertEqual(states(recipe, cells, course), found)
        self.assertEqual(lots_passed(recipe, cells, course), lots)
        most = max([plain_held(needs, lot) for lot in lots[:-1]], default=0)
        self.assertEqual(busiest(recipe, cells, course), most)
        self.assertTrue(all(len(set(later) - set(lot)) < 2 for lot, later in zip(lots, lots[1:])))
        if is_plain_made(needs, found[-1]):
            self.assertLess(most, cells)
            self.assertIs(is_row(recipe, lots), True)

    def test_all_short_courses(self):
        for pair, cells in [((1, [[0]]), 2), ((0, [[], []]), 2), ((2, [[1], [0]]), 2), ((1, [[]]), 1), (SWAP, 3)]:
            deeds = all_deeds(len(pair[1]), cells)
            for length in range(4 if cells < 3 else 3):
                for course in product(deeds, repeat=length):
                    self.check_course(pair, cells, list(course))

    def test_right_courses_and_those_with_one_wrong_deed(self):
        chance = random.Random(35)
        for many, needs in some_pairs() + great_pairs():
            for cells in {max(1, many), max(many, len(needs)) + 1, max(many, len(needs)) + 3}:
                course = right_course(chance, many, needs, cells, 12)
                self.check_course((many, needs), cells, course)
                for at in {0, len(course) // 2, len(course)}:
                    found = plain_walk(many, needs, cells, course[:at])[0][-1]
                    wrongs = [deed for deed in all_deeds(len(needs), cells) if plain_wrongs(needs, found, deed)]
                    wrong = course[:at] + [chance.choice(wrongs)] + course[at:]
                    self.assertEqual(first_wrong(Recipe(many, needs), cells, wrong), at)
                    self.check_course((many, needs), cells, wrong)

    def test_courses_that_make_the_image(self):
        chance = random.Random(36)
        made = 0
        for many, needs in [SWAP, CHAIN, (1, [[0], [0]]), (0, [[], [], []]), (2, [[0, 1], []]), (1, [[]])]:
            cells = max(many, len(needs)) + 2
            for _ in range(40):
                course = right_course(chance, many, needs, cells, 40)
                found = plain_walk(many, needs, cells, course)[0]
                ends = [at for at, state in enumerate(found) if is_plain_made(needs, state)]
                for at in ends[:2]:
                    self.check_course((many, needs), cells, course[:at])
                    made += 1
        self.assertGreater(made, 50)

    def test_the_empty_course(self):
        for many, needs in some_pairs() + great_pairs():
            recipe = Recipe(many, needs)
            cells = max(1, many)
            first = [("old", old) for old in range(many)] + [None] * (cells - many)
            self.assertIs(first_wrong(recipe, cells, []), None)
            self.assertEqual(states(recipe, cells, []), [first])
            self.assertIs(makes_image(recipe, cells, []), False)
            self.assertEqual((lots_passed(recipe, cells, []), busiest(recipe, cells, [])), ([[]], 0))

    def test_blocks_made_twice_and_thrown_away(self):
        swap = Recipe(*SWAP)
        course = [("make", 0, 2), ("make", 0, 3), ("copy", 0, 2), ("make", 1, 2), ("make", 1, 1), ("copy", 3, 0)]
        self.assertIs(makes_image(swap, 4, course), True)
        self.assertEqual(lots_passed(swap, 4, course), [[], [0], [0], [0], [0, 1], [0, 1], [0, 1]])
        course = [("make", 0, 2), ("copy", 0, 2), ("make", 0, 2), ("make", 1, 1), ("copy", 2, 0)]
        self.assertIs(makes_image(swap, 3, course), True)
        self.assertEqual(lots_passed(swap, 3, course), [[], [], [], [0], [0, 1], [0, 1]])
        self.assertEqual(busiest(swap, 3, course), 2)

    def test_the_written_cell_does_not_count_ahead_of_a_deed(self):
        recipe = Recipe(0, [[], []])
        self.assertEqual(lots_passed(recipe, 1, [("make", 0, 0), ("make", 1, 0)]), [[], [], [1]])
        course = [("make", 0, 0), ("copy", 0, 1), ("make", 1, 0)]
        self.assertEqual(lots_passed(recipe, 2, course), [[], [0], [0], [0, 1]])
        self.assertEqual(busiest(recipe, 1, [("make", 0, 0), ("make", 1, 0)]), 0)

    def test_the_last_lot_is_not_held(self):
        recipe = Recipe(0, [[], [], []])
        course = [("make", 0, 0), ("make", 1, 1), ("make", 2, 2)]
        self.assertEqual((busiest(recipe, 3, course), makes_image(recipe, 3, course)), (2, True))

    def test_is_course_of_any_object(self):
        for many, needs in small_pairs():
            recipe = Recipe(many, needs)
            for cells in (max(1, many), many + 1, many + 3):
                for thing in any_objects():
                    self.assertIs(is_course(recipe, cells, thing), is_plain_course(recipe, cells, thing), repr(thing))

    def test_blocks_and_cells_that_there_are_not(self):
        swap = Recipe(*SWAP)
        good = [("make", 0, 2), ("make", 1, 1)]
        for deed in (("make", 0, 3), ("make", 2, 0), ("copy", 0, 3), ("copy", 3, 0), ("make", 0, -1), None):
            for at in range(3):
                course = good[:at] + [deed] + good[at:]
                self.assertIs(is_course(swap, 3, course), False)
                for function in (first_wrong, states, makes_image, lots_passed, busiest):
                    self.assert_error(errors.InvalidCourse, course, function, swap, 3, course)
        self.assertIs(is_course(swap, 4, [("make", 0, 3), ("copy", 3, 0)]), True)

    def test_forty_deeds_on_sixteen_cells(self):
        chance = random.Random(37)
        for many, needs in great_pairs():
            course = right_course(chance, many, needs, 16, 40)
            self.assertEqual(len(course), 40)
            self.check_course((many, needs), 16, course)


class CellsTest(ErrorChecks, unittest.TestCase):
    def test_numbers_of_cells_at_the_edges(self):
        for pair in some_pairs():
            recipe = Recipe(*pair)
            least = max(1, pair[0])
            calls = [(first_state, ())] + [(function, ([],)) for function in (
                is_course, first_wrong, states, makes_image, lots_passed, busiest)]
            for function, rest in calls:
                function(recipe, least, *rest)
                for cells in range(-1, least):
                    self.assert_error(errors.InvalidCells, cells, function, recipe, cells, *rest)


class UnchangedTest(unittest.TestCase):
    def test_changing_a_result_changes_no_later_one(self):
        swap = Recipe(*SWAP)
        course = [("make", 0, 2), ("make", 1, 1), ("copy", 2, 0)]
        state = [("old", 0), None, ("old", 1)]
        calls = [(first_state, (swap, 3)), (why_wrong, (swap, state, ("copy", 1, 1))), (states, (swap, 3, course))]
        calls += [(behind, (swap, state, ("make", 0, 1))), (lacking, (swap, state)), (lost, (swap, [None]))]
        calls += [(lots_passed, (swap, 3, course))]
        for function, arguments in calls:
            told = function(*arguments)
            kept = repr(told)
            again = function(*arguments)
            if function in (states, lots_passed):
                told[0].append(7)
            told.append(7)
            self.assertEqual((repr(again), repr(function(*arguments))), (kept, kept))
        self.assertEqual(state, [("old", 0), None, ("old", 1)])
        self.assertEqual(course, [("make", 0, 2), ("make", 1, 1), ("copy", 2, 0)])
