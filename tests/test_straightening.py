"""Points [38] to [41]: ordinary inputs and edges."""
import random
import unittest
from itertools import product

from sparecells import errors
from sparecells.orders import width_of
from sparecells.recipes import Recipe
from sparecells.straightening import (
    is_row, is_step, is_straightened, loses_nothing, order_of, row_width, straightened)
from tests.plain import is_plain_row
from tests.support import (
    CHAIN, TREE, ErrorChecks, any_objects, every_pair, great_pairs, plain_holds, plain_lots, small_pairs)

SWAP = (2, [[1], [0]])
THREE = [CHAIN, (0, [[], [], []]), (1, [[0], [0], [0]]), (4, [[0, 1, 2, 3], [0, 1], []]), (3, [[0, 1, 2]] * 3)]


def some_row(chance, size, length):
    """A row of at most so many lots that gains and loses and stands still, and comes to its end."""
    row = [[]]
    while len(row) < length - size - 1:
        lot = {block for block in row[-1] if chance.random() < chance.choice((0.6, 0.95))}
        row.append(sorted(lot | {chance.randrange(size)}) if chance.random() < 0.8 else sorted(lot))
    for block in chance.sample(range(size), size):
        row.append(sorted(set(row[-1]) | {block}))
    return row


def all_rows(size, length):
    """All rows of so many lots."""
    rows = [[[]]]
    for _ in range(length - 1):
        rows = [row + [lot] for row in rows for lot in plain_lots(size) if len(set(lot) - set(row[-1])) < 2]
    return [row for row in rows if row[-1] == list(range(size))]


def plain_steps(held, row):
    """All rows that come of a row by one step, told from the words of [39]."""
    found = []
    for at, (lot, later) in enumerate(zip(row, row[1:])):
        if not set(lot) <= set(later):
            either, both = sorted(set(lot) | set(later)), sorted(set(lot) & set(later))
            if held[tuple(either)] < held[tuple(later)]:
                found.append(row[:at + 1] + [either] + row[at + 2:])
            if held[tuple(both)] <= held[tuple(lot)]:
                found.append(row[:at] + [both] + row[at + 1:])
    return found


def plain_width(held, row):
    return max(held[tuple(lot)] for lot in row[:-1])


def is_plain_straight(row):
    return all(set(lot) <= set(later) for lot, later in zip(row, row[1:]))


def bent(size, row):
    """Rows, or none, that differ from a row in little that a step does not change so."""
    lots = plain_lots(size)
    found = [row[:at] + [lot] + row[at + 1:] for at in range(len(row)) for lot in lots]
    found += [row[:at] + row[at + 1:] for at in range(len(row))]
    return found + [row[:at] + [row[at]] + row[at:] for at in range(len(row))]


class RowsTest(unittest.TestCase):
    def test_is_row_of_any_object(self):
        for many, needs in small_pairs():
            recipe = Recipe(many, needs)
            for thing in any_objects():
                self.assertIs(is_row(recipe, thing), is_plain_row(len(needs), thing), repr(thing))

    def test_all_lists_of_lots(self):
        for pair, longest in [((1, [[0]]), 6), (SWAP, 5), (CHAIN, 4)]:
            recipe = Recipe(*pair)
            for length in range(longest):
                for row in product(plain_lots(len(pair[1])), repeat=length):
                    right = is_plain_row(len(pair[1]), list(row))
                    self.assertIs(is_row(recipe, list(row)), right)
                    self.assertIs(is_row(recipe, row), False)

    def test_rows_that_stand_still_gain_and_lose(self):
        chain = Recipe(*CHAIN)
        for row in ([[], [0], [0, 1], [0, 1, 2]], [[], [], [2], [2], [0, 2], [0, 1, 2], [0, 1, 2]],
                    [[], [0], [0, 1], [2], [], [1], [1, 2], [0, 1, 2]], [[], [0], [0, 1], [1, 2], [0, 1, 2]]):
            self.assertIs(is_row(chain, row), True)
        for row in ([[], [0, 1], [0, 1, 2]], [[], [0], [1, 2], [0, 1, 2]], [[0], [0, 1], [0, 1, 2]], [[], [0], [0, 1]],
                    [[], [0], [1, 0], [0, 1, 2]], [[]], [[0, 1, 2]], [], [[], [0], [0, 1], [0, 1, 3]]):
            self.assertIs(is_row(chain, row), False)

    def test_row_width(self):
        chance = random.Random(38)
        for many, needs in small_pairs() + great_pairs():
            recipe, held = Recipe(many, needs), plain_holds(needs)
            for length in (1, 20, 41):
                row = some_row(chance, len(needs), length)
                self.assertEqual(row_width(recipe, row), plain_width(held, row))

    def test_the_last_lot_does_not_count(self):
        bare = Recipe(0, [[], []])
        self.assertEqual(row_width(bare, [[], [0], [0, 1]]), 1)
        self.assertEqual(row_width(bare, [[], [0], [0, 1], [0, 1]]), 2)
        self.assertEqual(row_width(Recipe(2, [[1], [0]]), [[], [0], [], [1], [0, 1]]), 2)


class StepsTest(unittest.TestCase):
    def test_all_rows_of_small_recipes(self):
        for pair in every_pair(2, 2) + [SWAP]:
            recipe, held = Recipe(*pair), plain_holds(pair[1])
            size = len(pair[1])
            for row in [row for length in range(2, 6) for row in all_rows(size, length)]:
                steps = plain_steps(held, row)
                for other in bent(size, row):
                    self.assertIs(is_step(recipe, row, other), other in steps, (pair, row, other))

    def test_rows_of_three_blocks(self):
        chance = random.Random(39)
        for pair in THREE:
            recipe, held = Recipe(*pair), plain_holds(pair[1])
            for row in chance.sample(all_rows(3, 6), 60) + [some_row(chance, 3, 12) for _ in range(10)]:
                steps = plain_steps(held, row)
                for other in bent(3, row) + steps:
                    self.assertIs(is_step(recipe, row, other), other in steps, (pair, row, other))

    def test_rows_of_great_recipes(self):
        chance = random.Random(40)
        for many, needs in great_pairs() + small_pairs()[-12:]:
            recipe, held = Recipe(many, needs), plain_holds(needs)
            for length in (14, 41):
                row = some_row(chance, len(needs), length)
                steps = plain_steps(held, row)
                for other in steps + chance.sample(bent(len(needs), row), 20):
                    self.assertIs(is_step(recipe, row, other), other in steps)
                    self.assertIs(is_step(recipe, row, tuple(other)), False)

    def test_wherever_a_row_loses_a_step_can_be_done(self):
        chance = random.Random(41)
        for many, needs in small_pairs() + great_pairs():
            recipe = Recipe(many, needs)
            row = some_row(chance, len(needs), 30)
            for at, (lot, later) in enumerate(zip(row, row[1:])):
                if not set(lot) <= set(later):
                    either, both = sorted(set(lot) | set(later)), sorted(set(lot) & set(later))
                    done = [is_step(recipe, row, row[:at + 1] + [either] + row[at + 2:])]
                    done.append(is_step(recipe, row, row[:at] + [both] + row[at + 1:]))
                    self.assertIn(True, done)

    def test_steps_of_both_kinds(self):
        swap = Recipe(*SWAP)
        row = [[], [0], [], [1], [0, 1]]
        # The lot is exchanged, as it holds just as much; the next one is not, as it holds no more.
        self.assertIs(is_step(swap, row, [[], [], [], [1], [0, 1]]), True)
        self.assertIs(is_step(swap, row, [[], [0], [0], [1], [0, 1]]), False)
        # Here both blocks free what they need, so the next one is exchanged, and the lot cannot be.
        steep = Recipe(4, [[0, 1], [2, 3]])
        row = [[], [0], [1], [0, 1]]
        self.assertIs(is_step(steep, row, [[], [0], [0, 1], [0, 1]]), True)
        self.assertIs(is_step(steep, row, [[], [], [1], [0, 1]]), False)

    def test_bent_steps(self):
        bare = Recipe(0, [[], [], []])
        row = [[], [0], [0, 1], [1], [1], [1, 2], [0, 1, 2]]
        right = row[:2] + [[1]] + row[3:]
        self.assertIs(is_step(bare, row, right), True)
        for other in (row, right[1:], right + [[0, 1, 2]], right[:-1], [right], None, [], [[0]] + right[1:],
                      row[:1] + [[]] + right[2:], row[:4] + [[]] + row[5:], right[:-1] + [[2, 1, 0]]):
            self.assertIs(is_step(bare, row, other), False, other)

    def test_a_row_that_loses_nothing_has_no_step(self):
        for pair in [SWAP, (0, [[], []]), (3, [[0, 1], [2]])]:
            recipe = Recipe(*pair)
            for row in all_rows(2, 4):
                if is_plain_straight(row):
                    for other in bent(2, row):
                        self.assertIs(is_step(recipe, row, other), False)

    def test_is_step_and_is_straightened_of_any_object(self):
        for many, needs in small_pairs()[:30] + [SWAP, CHAIN, TREE]:
            recipe, held = Recipe(many, needs), plain_holds(needs)
            size = len(needs)
            straight = [list(range(at)) for at in range(size + 1)]
            for row in (straight, straight[:2] + straight):
                steps = plain_steps(held, row)
                for thing in any_objects():
                    right = is_plain_row(size, thing) and thing in steps
                    self.assertIs(is_step(recipe, row, thing), right, repr(thing))
                    right = thing == [straight] and row == straight and is_plain_row(size, thing[0])
                    self.assertIs(is_straightened(recipe, row, thing), right, repr(thing))


class StraightenedTest(ErrorChecks, unittest.TestCase):
    def check_straightened(self, held, rows, row):
        self.assertEqual(rows[0], row)
        for one, other in zip(rows, rows[1:]):
            self.assertIn(other, plain_steps(held, one))
            self.assertLessEqual(plain_width(held, other), plain_width(held, one))
        self.assertTrue(is_plain_straight(rows[-1]))

    def test_rows_come_to_one_that_loses_nothing(self):
        chance = random.Random(42)
        for many, needs in small_pairs() + great_pairs() * 4 + THREE * 4:
            recipe, held = Recipe(many, needs), plain_holds(needs)
            for length in (5, 17, 41):
                row = some_row(chance, len(needs), length)
                rows = straightened(recipe, row)
                self.check_straightened(held, rows, row)
                self.assertIs(is_straightened(recipe, row, rows), True)
                self.assertIs(loses_nothing(recipe, row), is_plain_straight(row))
                self.assertIs(loses_nothing(recipe, rows[-1]), True)
                order = order_of(recipe, rows[-1])
                self.assertLessEqual(width_of(recipe, order), plain_width(held, row))

    def test_all_rows_of_small_recipes(self):
        for pair in every_pair(2, 2):
            recipe, held = Recipe(*pair), plain_holds(pair[1])
            for row in [row for length in range(2, 7) for row in all_rows(len(pair[1]), length)][::3]:
                self.check_straightened(held, straightened(recipe, row), row)

    def test_a_row_that_loses_nothing_is_alone(self):
        chain = Recipe(*CHAIN)
        for row in all_rows(3, 5):
            if is_plain_straight(row):
                self.assertEqual(straightened(chain, row), [row])
                self.assertIs(is_straightened(chain, row, [row]), True)
                for rows in ([], [row, row], row, [tuple(row)], (row,), [row[:-1]]):
                    self.assertIs(is_straightened(chain, row, rows), False)

    def test_any_steps_straighten(self):
        chance = random.Random(43)
        for many, needs in small_pairs() + great_pairs():
            recipe, held = Recipe(many, needs), plain_holds(needs)
            row = some_row(chance, len(needs), 16)
            rows = [row]
            while plain_steps(held, rows[-1]):
                self.assertIs(is_straightened(recipe, row, rows), False)
                rows.append(chance.choice(plain_steps(held, rows[-1])))
            self.check_straightened(held, rows, row)
            self.assertIs(is_straightened(recipe, row, rows), True)

    def test_bent_lists_of_rows(self):
        chance = random.Random(44)
        for many, needs in [TREE, CHAIN] + great_pairs():
            recipe, held = Recipe(many, needs), plain_holds(needs)
            row = some_row(chance, len(needs), 20)
            rows = straightened(recipe, row)
            self.assertGreater(len(rows), 3)
            for at in range(len(rows)):
                # Two steps at once are none, but where the one would also do without the other.
                fewer = rows[:at] + rows[at + 1:]
                right = fewer[0] == row and all(b in plain_steps(held, a) for a, b in zip(fewer, fewer[1:]))
                self.assertIs(is_straightened(recipe, row, fewer), right and is_plain_straight(fewer[-1]))
                self.assertIs(is_straightened(recipe, row, rows[:at] + [rows[at]] + rows[at:]), False)
                self.assertIs(is_straightened(recipe, row, rows[:at] + [tuple(rows[at])] + rows[at + 1:]), False)
                self.assertIs(is_straightened(recipe, row, rows[:at] + [None] + rows[at:]), False)
            self.assertIs(is_straightened(recipe, rows[1], rows), False)
            self.assertIs(is_straightened(recipe, rows[1], rows[1:]), True)
            self.assertIs(is_straightened(recipe, row, rows + [rows[-1]]), False)

    def test_order_of(self):
        for pair in (CHAIN, (0, [[], [], []])):
            recipe = Recipe(*pair)
            for row in all_rows(3, 5):
                if is_plain_straight(row):
                    gains = [sorted(set(later) - set(lot)) for lot, later in zip(row, row[1:])]
                    self.assertEqual(order_of(recipe, row), sum(gains, []))
                else:
                    self.assertIs(loses_nothing(recipe, row), False)
                    self.assert_error(errors.Refused, row, order_of, recipe, row)

    def test_orders_of_rows_that_stand_still(self):
        swap = Recipe(*SWAP)
        self.assertEqual(order_of(swap, [[], [], [1], [1], [0, 1], [0, 1]]), [1, 0])
        self.assertEqual(order_of(Recipe(3, [[]]), [[], [0]]), [0])


class UnchangedTest(unittest.TestCase):
    def test_changing_what_was_passed_or_returned_changes_no_later_result(self):
        swap = Recipe(*SWAP)
        row = [[], [0], [], [1], [0, 1]]
        rows = straightened(swap, row)
        kept = repr(rows)
        row[1].append(1)
        row.pop()
        self.assertEqual(repr(rows), kept)
        again = straightened(swap, [[], [0], [], [1], [0, 1]])
        rows[0][1].append(7)
        rows[-1].append([7])
        rows.append(7)
        self.assertEqual(repr(again), kept)
        self.assertEqual(repr(straightened(swap, [[], [0], [], [1], [0, 1]])), kept)

    def test_a_row_alone_is_not_the_passed_one(self):
        swap = Recipe(*SWAP)
        row = [[], [1], [0, 1]]
        rows = straightened(swap, row)
        rows[0][1].append(7)
        rows[0].append(7)
        self.assertEqual(row, [[], [1], [0, 1]])
        order = order_of(swap, row)
        order.append(7)
        self.assertEqual(order_of(swap, row), [1, 0])
