"""What things are, judged apart from the package and told from the words of the document alone."""
from sparecells.recipes import Recipe


def is_whole(thing):
    return type(thing) is int


def is_below(thing, limit):
    return is_whole(thing) and 0 <= thing < limit


def is_plain_lot(size, thing):
    return type(thing) is list and all(map(is_whole, thing)) and thing == [b for b in range(size) if b in thing]


def is_plain_order(size, thing):
    return type(thing) is list and all(map(is_whole, thing)) and sorted(thing) == list(range(size))


def is_plain_road(size, lot, thing):
    if type(thing) is not list or not all(is_below(item, size) for item in thing):
        return False
    return len(set(thing)) == len(thing) and not set(thing) & set(lot)


def is_plain_row(size, thing):
    if type(thing) is not list or not all(is_plain_lot(size, lot) for lot in thing):
        return False
    if len(thing) < 2 or thing[0] != [] or thing[-1] != list(range(size)):
        return False
    return all(len(set(later) - set(lot)) < 2 for lot, later in zip(thing, thing[1:]))


def is_plain_content(recipe, thing):
    limits = {"old": recipe.many(), "new": recipe.size()}
    if type(thing) is not tuple or len(thing) != 2:
        return thing is None
    return type(thing[0]) is str and is_below(thing[1], limits.get(thing[0], 0))


def is_plain_state(recipe, thing):
    return type(thing) is list and thing != [] and all(is_plain_content(recipe, item) for item in thing)


def is_plain_deed(recipe, cells, thing):
    if type(thing) is not tuple or len(thing) != 3 or type(thing[0]) is not str:
        return False
    limits = {"make": recipe.size(), "copy": cells}
    return is_below(thing[1], limits.get(thing[0], 0)) and is_below(thing[2], cells)


def is_plain_course(recipe, cells, thing):
    return type(thing) is list and all(is_plain_deed(recipe, cells, item) for item in thing)


def is_plain_recipe(thing):
    return type(thing) is Recipe


def plain_wrongs(needs, state, deed):
    """All that is wrong with a deed, ascending."""
    word, source, cell = deed
    found = set()
    if word == "make":
        for old in needs[source]:
            if not any(at != cell and content == ("old", old) for at, content in enumerate(state)):
                found.add(("lacks", old))
    else:
        if state[source] is None:
            found.add(("nothing",))
        if source == cell:
            found.add(("same",))
    return sorted(found)


def plain_done(state, deed):
    """The state behind a deed, right or not."""
    word, source, cell = deed
    later = dict(enumerate(state))
    later[cell] = ("new", source) if word == "make" else state[source]
    return [later[at] for at in range(len(state))]
