"""What things are, judged apart from the package and told from the words of the document alone."""
import re

from sparecells.recipes import Recipe


def is_whole(thing):
    return type(thing) is int


def is_below(thing, limit):
    return is_whole(thing) and 0 <= thing < limit


def is_plain_lot(size, thing):
    return type(thing) is list and all(map(is_whole, thing)) and thing == [b for b in range(size) if b in thing]


def is_plain_order(size, thing):
    return type(thing) is list and all(map(is_whole, thing)) and sorted(thing) == list(range(size))


def is_plain_road(size, lot, thing):
    if type(thing) is not list or not all(is_below(item, size) for item in thing):
        return False
    return len(set(thing)) == len(thing) and not set(thing) & set(lot)


def is_plain_row(size, thing):
    if type(thing) is not list or not all(is_plain_lot(size, lot) for lot in thing):
        return False
    if len(thing) < 2 or thing[0] != [] or thing[-1] != list(range(size)):
        return False
    return all(len(set(later) - set(lot)) < 2 for lot, later in zip(thing, thing[1:]))


def is_plain_content(recipe, thing):
    limits = {"old": recipe.many(), "new": recipe.size()}
    if type(thing) is not tuple or len(thing) != 2:
        return thing is None
    return type(thing[0]) is str and is_below(thing[1], limits.get(thing[0], 0))


def is_plain_state(recipe, thing):
    return type(thing) is list and thing != [] and all(is_plain_content(recipe, item) for item in thing)


def is_plain_deed(recipe, cells, thing):
    if type(thing) is not tuple or len(thing) != 3 or type(thing[0]) is not str:
        return False
    limits = {"make": recipe.size(), "copy": cells}
    return is_below(thing[1], limits.get(thing[0], 0)) and is_below(thing[2], cells)


def is_plain_course(recipe, cells, thing):
    return type(thing) is list and all(is_plain_deed(recipe, cells, item) for item in thing)


def is_plain_cuts(course, thing):
    if type(thing) is not list or not all(is_below(item, len(course)) for item in thing):
        return False
    return all(one <= other for one, other in zip(thing, thing[1:]))


def are_plain_cells(cells, thing):
    """Whether any object is a list of different ones of so many cells."""
    return type(thing) is list and all(is_below(item, cells) for item in thing) and len(set(thing)) == len(thing)


def are_plain_lots(thing):
    if type(thing) is not list or not all(type(lot) is list for lot in thing):
        return False
    if not all(is_whole(item) and item >= 0 for lot in thing for item in lot):
        return False
    return all(one < other for lot in thing for one, other in zip(lot, lot[1:]))


COUNT = "(0|[1-9][0-9]*)"
BARE = "undo redo state is_done lot_there ways_on can_finish".split()


def is_plain_recipe_text(thing):
    if type(thing) is not str or not re.fullmatch(f"old {COUNT}(\nneeds( {COUNT})*)+", thing):
        return False
    many, *rows = [[int(word) for word in line.split()[1:]] for line in thing.split("\n")]
    return are_plain_lots(rows) and all(row == [] or row[-1] < many[0] for row in rows)


def is_plain_lots_text(thing):
    if type(thing) is not str or not re.fullmatch(f"|({COUNT}( {COUNT})*|-)(\n({COUNT}( {COUNT})*|-))*", thing):
        return False
    return are_plain_lots([[int(word) for word in line.replace("-", "").split()] for line in thing.split("\n")])


def is_plain_script(thing):
    return type(thing) is list and all(is_plain_command(item) for item in thing)


def is_plain_command(thing):
    if type(thing) is not tuple or thing == () or type(thing[0]) is not str:
        return False
    word, rest = thing[0], thing[1:]
    if word in ("try", "cut"):
        return len(rest) == 1 and (is_plain_script(rest[0]) if word == "try" else is_plain_two(rest[0], "make", "copy"))
    return (word in BARE and rest == ()) or is_plain_two(thing, "make", "lead")


def is_plain_two(thing, *words):
    """Whether any object is a tuple of one of some words and two counts."""
    if type(thing) is not tuple or len(thing) != 3 or not any(thing[0] == word for word in words):
        return False
    return all(is_whole(item) and item >= 0 for item in thing[1:])


def is_plain_script_text(thing):
    if type(thing) is not str:
        return False
    inside = 0
    for line in thing.split("\n") if thing else []:
        inside -= line.endswith("end")
        start, told = line[:2 * inside], line[2 * inside:]
        known = "|".join([f"(make|lead|cut make|cut copy) {COUNT} {COUNT}", "try", "end", *BARE])
        if inside < 0 or start != "  " * inside or not re.fullmatch(known, told):
            return False
        inside += told == "try"
    return inside == 0


def is_plain_recipe(thing):
    return type(thing) is Recipe


def plain_wrongs(needs, state, deed):
    """All that is wrong with a deed, ascending."""
    word, source, cell = deed
    found = set()
    if word == "make":
        for old in needs[source]:
            if not any(at != cell and content == ("old", old) for at, content in enumerate(state)):
                found.add(("lacks", old))
    else:
        if state[source] is None:
            found.add(("nothing",))
        if source == cell:
            found.add(("same",))
    return sorted(found)


def plain_done_any(needs, state, deed):
    """The state behind a deed, right or not, in which a make that lacks something writes nothing of worth."""
    if deed[0] == "make" and not {("old", old) for old in needs[deed[1]]} <= set(state):
        return plain_cut(state, deed)
    return plain_done(state, deed)


def plain_cut(state, deed):
    """The state in which the power fell amid a deed."""
    return [None if cell == deed[2] else content for cell, content in enumerate(state)]


def plain_done(state, deed):
    """The state behind a deed, right or not."""
    word, source, cell = deed
    later = dict(enumerate(state))
    later[cell] = ("new", source) if word == "make" else state[source]
    return [later[at] for at in range(len(state))]
