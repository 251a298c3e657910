"""What several tests share: recipes to try, a plain count of their own, and any objects."""
import random
from itertools import combinations, permutations

from sparecells import errors
from sparecells.device import Device
from sparecells.recipes import Recipe

CHAIN = (3, [[0, 1], [1, 2], [2]])
TREE = (5, [[0, 1, 2], [3, 4], [0], [3]])


def some_needs(chance, many, size):
    rows = []
    for _ in range(size):
        share = chance.random()
        rows.append([old for old in range(many) if chance.random() < share])
    return rows


def every_pair(most_old, most_new):
    """All recipes of so many blocks at most, as tuples of their two arguments."""
    pairs = []
    for many in range(most_old + 1):
        rows = [list(row) for size in range(many + 1) for row in combinations(range(many), size)]
        todo = [[]]
        for _ in range(most_new):
            todo = [head + [row] for head in todo for row in rows]
            pairs.extend([(many, needs) for needs in todo])
    return pairs


def small_pairs():
    """Recipes for tests that go through all lots and orders by a plain count."""
    chance = random.Random(2026)
    pairs = [CHAIN, TREE, (0, [[]]), (1, [[]]), (3, [[], [], []]), (2, [[], [0, 1], []]), (3, [[1], [1], [1]])]
    pairs.extend(every_pair(2, 2))
    for many in range(7):
        for size in range(1, 6):
            pairs.append((many, some_needs(chance, many, size)))
    return pairs


def great_pairs():
    """Recipes at the limits: 8 new and 8 old blocks."""
    chance = random.Random(88)
    pairs = [(8, [[block] for block in range(8)]), (8, [list(range(8)) for _ in range(8)])]
    pairs.append((8, [[old for old in range(8) if abs(old - block) < 2] for block in range(8)]))
    pairs.append((8, some_needs(chance, 8, 8)))
    return pairs


def plain_lots(size):
    """All lots of so many new blocks, ascending."""
    return sorted(list(lot) for many in range(size + 1) for lot in combinations(range(size), many))


def plain_needed(needs, lot):
    return [old for old in range(100) if any(old in row for block, row in enumerate(needs) if block not in lot)]


def plain_held(needs, lot):
    return len(lot) + len(plain_needed(needs, lot))


def plain_holds(needs):
    """What each lot holds, by its tuple."""
    return {tuple(lot): plain_held(needs, lot) for lot in plain_lots(len(needs))}


def plain_width_of(needs, order, memo):
    width = 0
    for at in range(len(order)):
        lot = frozenset(order[:at])
        if lot not in memo:
            memo[lot] = plain_held(needs, lot)
        width = max(width, memo[lot])
    return width


def plain_orders(needs):
    """All orders, ascending, each with its width."""
    memo = {}
    return [(list(order), plain_width_of(needs, order, memo)) for order in permutations(range(len(needs)))]


def any_objects():
    """Objects of all kinds that a caller may pass."""
    recipe = Recipe(1, [[0]])
    plain = [None, True, False, -1, 0, 1, 2, 3, 7, 60, 10 ** 30, -10 ** 30, "", "0", "[0]", "lot", "a\tb\n~"]
    lists = [[], [0], [1], [2], [0, 1], [1, 0], [0, 1, 2], [2, 1, 0], [0, 2, 1], [0, 0], [1, 1], [0, 1, 1], [0, 2]]
    odd = [[True], [False], [0, True], [False, 1], [False, True], [True, False], [-1], [-1, 0], [99], [0, 99]]
    odd += [[None], [0, None], ["0"], [0, "1"], [[]], [[0]], [[0], [1]], [0, [1]], [(0,)], [{}], [10 ** 30]]
    other = [(), (0,), (0, 1), (1, 0), (0, 1, 2), ([0],), ((),), {}, {0: 0}, {0: [0]}, {"many": 1}, {(1, 2): None}]
    own = [recipe, [recipe], (recipe,), {"recipe": recipe}, errors.CellsError(), errors.InvalidLot([0])]
    own += [[errors.Refused()], errors.NothingToUndo()]
    deep = []
    for _ in range(39):
        deep = [deep]
    return plain + lists + odd + other + own + [deep] + cell_objects() + row_objects() + device_objects()


def cell_objects():
    """Objects that are, or nearly are, contents, states, deeds or courses."""
    contents = [("old", 0), ("new", 0), ("old", 1), ("new", 2), ("old", 99), ("new", -1), ("old", True), ("new", None)]
    contents += [("Old", 0), ("none",), ("old",), ("old", 0, 0), (None, 0), (0, "old"), ["new", 0], ("new", [0])]
    deeds = [("make", 0, 0), ("make", 0, 1), ("make", 1, 0), ("copy", 0, 1), ("copy", 1, 0), ("copy", 0, 0)]
    deeds += [("make", 0, 99), ("make", 99, 0), ("copy", 99, 0), ("copy", 0, 99), ("make", 0, -1), ("copy", -1, 0)]
    deeds += [("make", True, 0), ("make", 0, False), ("copy", False, 1), ("make", 0), ("make", 0, 0, 0), ("make",)]
    deeds += [["make", 0, 0], ["copy", 0, 1], ("lead", 0, 1), ("cut", ("make", 0, 0)), ("Make", 0, 0), (None, 0, 0)]
    deeds += [("make", "0", 0), ("make", 0, None), ("copy", [0], 1), ("make", (0,), 0), (("make",), 0, 0), ("", 0, 0)]
    several = [[None, None], [("old", 0), None], [("new", 0), ("old", 0)], [None, True], [None, ["old", 0]]]
    several += [[("make", 0, 0), ("copy", 0, 0)], [("copy", 0, 1), ["copy", 0, 1]], (("make", 0, 0),), (None,)]
    return contents + deeds + [[thing] for thing in contents + deeds] + several


def row_objects():
    """Objects that are, or nearly are, rows of lots, lists of rows or barriers."""
    rows = [[[], [0]], [[], []], [[], [0], [0, 1]], [[], [1], [0, 1]], [[], [0], [], [1], [0, 1]], [[0], [0, 1]]]
    rows += [[[], [], [0]], [[], [0, 1]], [[], [1, 0]], [[], (0,)], ([], [0]), [(), (0,)], [[], [True]]]
    rows += [[[], [0], None], [[False], [0]], [[], [0], [0]], [[], [0], [-1, 0]], [[], [0], [0, 0]], [[], [[0]]]]
    rows += [[[], [0], [0, 1], [0, 1, 2]], [[], [0], [0, 2], [0, 1, 2]], [[], [2], [0], [0, 1], [0, 1, 2], [0, 1, 2]]]
    return rows + [[row] for row in rows] + [[[], [0], [1], [2]], [[0], []], [[1]], [[2], [2]], [[], [[]]]]


def device_objects():
    """Objects that are, or nearly are, devices, scripts, records or texts, moves, cuts or other recipes."""
    device = Device(Recipe(1, [[0]]), 2)
    things = [device, [device], device.trial(), Recipe(2, [[0, 1], [1]]), Recipe(9, [[0]]), Recipe(0, [[]] * 9)]
    words = ["undo", "redo", "state", "is_done", "lot_there", "ways_on", "can_finish", "try", "done", "end", ""]
    commands = [(word,) for word in words] + [("undo", 0), ("state", []), ("try", []), ("try", [("undo",)]),
        ("try", ())]
    commands += [("try", [("undo",), 0]), ("try", [], []), ("try", [("try", [("try", [("redo",)])])]), ["undo"]]
    commands += [("try", [["undo"]]), ("lead", 1, 0), ("lead", 0, True), ("lead", 0, -1), ("lead", 0),
        ("lead", None, [])]
    commands += [("cut", ("copy", 0, 1)), ("cut", ["make", 0, 0]), ("cut", ("lead", 0, 1)), ("cut",), ("cut", 0, 1)]
    commands += [("cut", "make", 0, 0), ("make", 0, 10 ** 29), ("cut", ("copy", 0, True)), ("cut", None), (0, 0, 0)]
    scripts = [[command] for command in commands] + [[("make", 0, 1), ("cut", ("copy", 1, 0)), ("undo",)]]
    texts = ["old 1\nneeds 0", "old 1", "old 1\nneeds 0\n", "old 01\nneeds 0", "old 1\nneeds", "old 1\nneeds 1", "-"]
    texts += ["0 2\n-", "0 2\n-\n", "-\n\n-", "0 2 ", " 0", "00", "0  2", "2 0", "0 0", "- 0", "+1", "1_0", "-1", "\t0"]
    texts += ["undo", "undo\n", "make 0 2\ntry\n  undo\nend", "try\nend", "try\n", "try\nundo\nend", "cut copy 0 1"]
    texts += ["end", "try\n  try\n  end\nend", " undo", "undo ", "make 0  2", "make 00 2", "cut lead 0 1", "make 0"]
    moves = [[(0, 1)], [(1, 0)], [(0, 2), (1, 0), (2, 1)], [[0, 1]], [(0,)], [(0, 1, 2)], [(True, False)], [(0, 99)]]
    return things + commands + scripts + texts + moves


class ErrorChecks:
    """For test cases: what a call raises, by its very class and its very object."""

    def assert_error(self, error, value, function, *arguments):
        try:
            result = function(*arguments)
        except errors.CellsError as caught:
            self.assertIs(type(caught), error, (function.__name__, arguments))
            self.assertIs(caught.value, value, (function.__name__, arguments))
        else:
            self.fail(f"{function.__name__}{arguments} returned {result}")
