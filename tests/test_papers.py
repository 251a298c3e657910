"""Points [65] and [66]: ordinary inputs and edges."""
import random
import unittest

from sparecells import errors
from sparecells.lots import low_lots
from sparecells.papers import lots_text, read_lots, read_recipe, recipe_text
from sparecells.recipes import Recipe
from sparecells.windows import window
from tests.plain import are_plain_lots, is_plain_lots_text, is_plain_recipe_text
from tests.support import CHAIN, TREE, ErrorChecks, any_objects, great_pairs, plain_lots, small_pairs

SIGNS = [chr(sign) for sign in range(32, 127)] + ["\t", "\n"]


def plain_text(many, needs):
    text = "old " + str(many)
    for row in needs:
        text += "\nneeds" + "".join(" " + str(old) for old in row)
    return text


def plain_lots_text(lots):
    return "\n".join(" ".join(map(str, lot)) or "-" for lot in lots)


def neighbours(text):
    """All texts with one sign or one line more or less, or another sign at a place."""
    found = [text[:at] + text[at + 1:] for at in range(len(text))]
    for sign in ["0", "1", "9", " ", "-", "\n", "\t", "n", "+", "_"]:
        found += [text[:at] + sign + text[at:] for at in range(len(text) + 1)]
        found += [text[:at] + sign + text[at + 1:] for at in range(len(text))]
    lines = text.split("\n")
    found += ["\n".join(lines[:at] + lines[at + 1:]) for at in range(len(lines))]
    return found + ["\n".join(lines[:at] + [lines[at]] + lines[at:]) for at in range(len(lines))]


class RecipeTextTest(ErrorChecks, unittest.TestCase):
    def test_written_and_read(self):
        for many, needs in small_pairs() + great_pairs() + [(10 ** 29, [[0, 10 ** 29 - 1], []]), (12, [[9, 10, 11]])]:
            text = recipe_text(Recipe(many, needs))
            self.assertEqual(text, plain_text(many, needs))
            self.assertEqual(read_recipe(text), Recipe(many, needs))

    def test_many_lines(self):
        great = window(60, 60, 60)
        self.assertEqual(read_recipe(recipe_text(great)), great)
        long = Recipe(110, [list(range(110))] * 249)
        self.assertEqual(len(recipe_text(long).split("\n")), 250)
        self.assertEqual(read_recipe(recipe_text(long)), long)

    def check_text(self, text):
        if is_plain_recipe_text(text):
            self.assertEqual(recipe_text(read_recipe(text)), text)
        else:
            self.assert_error(errors.InvalidText, text, read_recipe, text)

    def test_texts_that_differ_a_little(self):
        for pair in [CHAIN, (0, [[]]), (1, [[0]]), (11, [[0, 10], []])]:
            for text in neighbours(plain_text(*pair)):
                self.check_text(text)

    def test_any_object(self):
        for thing in any_objects():
            self.check_text(thing)

    def test_texts_at_the_edges(self):
        wrong = ["", "old", "old ", "old 0", "old 0\n", "old 00\nneeds", "old 01\nneeds 0", "old 1\nneeds 00",
            "needs 0"]
        wrong += ["old 1\nneeds 0 ", "old 1\nneeds  0", "old 1 \nneeds 0", " old 1\nneeds 0", "old 1\n needs 0"]
        wrong += ["old 2\nneeds 1 0", "old 2\nneeds 0 0", "old 1\nneeds 1", "old 1\nneeds 0\n", "old 1\n\nneeds 0"]
        wrong += ["old -1\nneeds", "old +1\nneeds", "old 1_0\nneeds", "old 1\nneeds -0", "old 1\nneeds\t0",
            "Old 1\nneeds"]
        wrong += ["old 1\nneed 0", "old 1\nold 1", "old 1 1\nneeds 0", "old x\nneeds", "old 1\nneeds x",
            "old 1\nneeds -"]
        wrong += ["old 0\nneeds 0", "old 1\nneeds 0 1", "new 1\nneeds 0", "old 1 needs 0", "old 1\nneeds 0.0"]
        for text in wrong:
            self.assert_error(errors.InvalidText, text, read_recipe, text)
        self.assertEqual(read_recipe("old 0\nneeds"), Recipe(0, [[]]))
        self.assertEqual(read_recipe("old 7\nneeds\nneeds"), Recipe(7, [[], []]))

    def test_digits_of_other_scripts(self):
        for digit in ("\u0661", "\u00b2", "\uff11"):
            text = f"old {digit}\nneeds"
            self.assert_error(errors.InvalidText, text, read_recipe, text)


class LotsTextTest(ErrorChecks, unittest.TestCase):
    def test_written_and_read(self):
        chance = random.Random(66)
        lots = plain_lots(5)
        for _ in range(200):
            some = [list(chance.choice(lots)) for _ in range(chance.randrange(6))]
            text = lots_text(some)
            self.assertEqual(text, plain_lots_text(some))
            self.assertEqual(read_lots(text), some)
        for some in [[], [[]], [[], []], [[10 ** 29]], [[0], [], [0, 9, 10, 99]], [[0]] * 250, [list(range(100))]]:
            self.assertEqual(lots_text(some), plain_lots_text(some))
            self.assertEqual(read_lots(lots_text(some)), some)
        told = low_lots(Recipe(*TREE), 5)
        self.assertEqual(read_lots(lots_text(told)), told)

    def test_no_lots_and_one_empty_lot(self):
        self.assertEqual((lots_text([]), lots_text([[]]), lots_text([[], []])), ("", "-", "-\n-"))
        self.assertEqual((read_lots(""), read_lots("-"), read_lots("-\n-")), ([], [[]], [[], []]))

    def check_text(self, text):
        if is_plain_lots_text(text):
            self.assertEqual(lots_text(read_lots(text)), text)
        else:
            self.assert_error(errors.InvalidText, text, read_lots, text)

    def test_texts_that_differ_a_little(self):
        for lots in [[[0, 2], []], [[0]], [[]], [[], [1, 10, 11], []]]:
            for text in neighbours(plain_lots_text(lots)):
                self.check_text(text)

    def test_all_short_texts(self):
        for one in SIGNS:
            for other in SIGNS:
                self.check_text(one + other)

    def test_any_object(self):
        for thing in any_objects():
            self.check_text(thing)
            if are_plain_lots(thing):
                self.assertEqual(read_lots(lots_text(thing)), thing)
            else:
                self.assert_error(errors.InvalidLots, thing, lots_text, thing)

    def test_lots_that_are_none(self):
        for lots in [[[1, 0]], [[0, 0]], [[-1]], [[True]], [[False, 1]], [(0,)], ([0],), [[0], None], [["0"]],
                [[[0]]], {}]:
            self.assert_error(errors.InvalidLots, lots, lots_text, lots)


class UnchangedTest(unittest.TestCase):
    def test_what_was_read_or_passed_is_changed_afterwards(self):
        told = read_lots("0 2\n-")
        told[0].append(7)
        told[1].append(7)
        self.assertEqual(read_lots("0 2\n-"), [[0, 2], []])
        lots = [[], [3]]
        text = lots_text(lots)
        self.assertEqual(lots, [[], [3]])
        lots[0].append(9)
        self.assertEqual((text, lots_text([[], [3]])), ("-\n3", "-\n3"))
        recipe = read_recipe("old 1\nneeds 0")
        recipe.needs()[0].append(7)
        self.assertEqual(recipe_text(recipe), "old 1\nneeds 0")
