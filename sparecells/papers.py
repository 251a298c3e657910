"""Texts of recipes and of lots, written and read."""
from sparecells.checks import is_ascending
from sparecells.errors import CellsError, InvalidLots, InvalidText
from sparecells.recipes import Recipe, check_recipe


def recipe_text(recipe):
    """The text of a recipe: a line with the number of old blocks, and one for what each new block needs."""
    check_recipe(recipe)
    return _text([["old", recipe.many()]] + [["needs"] + row for row in recipe.needs()])


def read_recipe(text):
    """The recipe that has a text."""
    rows = rows_of(text)
    many = rows[0][-1]
    needs = [row[1:] for row in rows[1:]]
    try:
        recipe = Recipe(many, needs)
    except CellsError:
        raise InvalidText(text) from None
    # What is read of a text that is none has another one.
    if recipe_text(recipe) != text:
        raise InvalidText(text)
    return recipe


def lots_text(lots):
    """The text of a list of lots: a line with the counts of each one, or with a dash."""
    if not _are_lots(lots):
        raise InvalidLots(lots)
    return _text([lot if lot else ["-"] for lot in lots])


def read_lots(text):
    """The list of lots that has a text."""
    lots = [[] if row == ["-"] else row for row in rows_of(text)]
    if text == "":
        return []
    if not _are_lots(lots) or lots_text(lots) != text:
        raise InvalidText(text)
    return lots


def _are_lots(value):
    """Whether any object is a list of ascending lists of counts."""
    return isinstance(value, list) and all([is_ascending(item) for item in value])


def _text(rows):
    """The text of a list of lines, each a list of words and counts."""
    return "\n".join([" ".join([str(part) for part in row]) for row in rows])


def rows_of(text):
    """The lines of a text, each as the list of its words, with the numbers in place of their words.

    Numbers are read from any writing that Python knows: who reads has to compare the text with what is written again.
    """
    if not isinstance(text, str):
        raise InvalidText(text)
    return [[_read_part(word) for word in line.split(" ")] for line in text.split("\n")]


def _read_part(word):
    """The number that a word tells, or the word itself."""
    try:
        return int(word)
    except ValueError:
        return word
