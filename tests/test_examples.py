"""The examples of the document, as they are written."""
import unittest

ORDERS = '''
from sparecells.lots import floors, held, least_lots, needed
from sparecells.orders import best_order, full_width, least_cells, many_within, order_at, prices, spare_cells, sure_ahead, turned_order, width, width_of
from sparecells.recipes import Recipe, beside, turned, used, users_of, without
chain = Recipe(3, [[0, 1], [1, 2], [2]])
[needed(chain, [0]), held(chain, [0]), prices(chain, [0, 1, 2]), width_of(chain, [2, 1, 0]), width(chain), best_order(chain), many_within(chain, 3), least_cells(chain)]
# [[1, 2], 3, [3, 3, 3], 4, 3, [0, 1, 2], 1, 4]
tree = Recipe(5, [[0, 1, 2], [3, 4], [0], [3]])
[width(tree), floors(tree), least_lots(tree), many_within(tree, 5), order_at(tree, 5, 1), sure_ahead(tree), spare_cells(tree)]
# [5, [5, 4, 4, 4, 4], ([0], [0, 1, 2, 3]), 9, [0, 1, 3, 2], [(0, 2)], 1]
[users_of(tree, 3), used(without(chain, [0])), width(beside(chain, chain)), full_width(tree), turned(chain).needs(), least_cells(turned(chain)), turned_order(chain, [0, 1, 2])]
# [[1, 3], [1, 2], 6, 5, [[0], [0, 1], [1, 2]], 4, [2, 1, 0]]
'''

# Of the examples of section 12 those lines that need no more than recipes and orders.
CELLS = '''
from sparecells.orders import lasting_cells, least_cells
from sparecells.recipes import Recipe
one, other = Recipe(1, [[0], []]), Recipe(1, [[0], [0]])
[least_cells(one), least_cells(other), lasting_cells(one), lasting_cells(other)]
# [2, 3, 3, 3]
'''

RESTS = '''
from sparecells.barriers import barrier, border, is_barrier, reached, stuck_lots, way_to
from sparecells.recipes import Recipe
from sparecells.rests import best_road, height, is_rest, least_height, led_through, rests
tree = Recipe(5, [[0, 1, 2], [3, 4], [0], [3]])
[barrier(tree, 5), is_barrier(tree, 4, []), reached(tree, 5)[:4], way_to(tree, 5, [1, 3]), is_barrier(Recipe(2, [[1], [0]]), 1, [])]
# [None, True, [[], [0], [0, 1], [0, 1, 2]], [1, 3], True]
[is_barrier(Recipe(4, [[0, 1], [0, 1], [2, 3]]), 3, []), is_barrier(Recipe(4, [[0, 1], [0, 1], [2, 3]]), 3, [[2]])]
# [True, True]
chain = Recipe(3, [[0, 1], [1, 2], [2]])
[reached(chain, 2), barrier(chain, 2), reached(chain, 3), border(chain, 3), is_rest(chain, [], [0]), rests(chain, [0]), height(chain, [], [2, 1]), least_height(chain, [], [0, 1])]
# [[], [], [[], [0], [0, 1]], [([], 1), ([], 2), ([0], 2)], True, [[0], [0, 1], [0, 1, 2]], 4, 3]
led_through(tree, [1, 3, 0, 2], [], [0])
# [0, 1, 3, 2]
'''

COURSES = '''
from sparecells.courses import busiest, first_wrong, lots_passed, makes_image, states, why_wrong
from sparecells.recipes import Recipe
swap = Recipe(2, [[1], [0]])
course = [("make", 0, 2), ("make", 1, 1), ("copy", 2, 0)]
[states(swap, 3, course)[1], makes_image(swap, 3, course), lots_passed(swap, 3, course), busiest(swap, 3, course)]
# [[('old', 0), ('old', 1), ('new', 0)], True, [[], [0], [0, 1], [0, 1]], 2]
[why_wrong(swap, [("old", 0), ("old", 1)], ("make", 0, 1)), first_wrong(swap, 3, [("make", 0, 1), ("copy", 2, 0)])]
# [[('lacks', 1)], 0]
'''

STRAIGHTENING = '''
from sparecells.recipes import Recipe
from sparecells.straightening import is_step, loses_nothing, order_of, row_width, straightened
swap = Recipe(2, [[1], [0]])
[row_width(swap, [[], [0], [], [1], [0, 1]]), loses_nothing(swap, [[], [0], [], [1], [0, 1]]), order_of(swap, [[], [], [1], [0, 1]])]
# [2, False, [1, 0]]
[is_step(swap, [[], [0], [], [1], [0, 1]], [[], [], [], [1], [0, 1]]), order_of(swap, straightened(swap, [[], [0], [], [1], [0, 1]])[-1])]
# [True, [1, 0]]
'''


class ExamplesTest(unittest.TestCase):
    def check(self, text):
        names = {}
        lines = text.strip().split("\n")
        checked = 0
        for line, told in zip(lines, lines[1:] + [""]):
            if told.startswith("# "):
                self.assertEqual(repr(eval(line, names)), told[2:], line)
                checked += 1
            elif not line.startswith("# "):
                exec(line, names)
        self.assertEqual(checked, text.count("\n# "))

    def test_orders(self):
        self.check(ORDERS)

    def test_cells(self):
        self.check(CELLS)

    def test_rests(self):
        self.check(RESTS)

    def test_courses(self):
        self.check(COURSES)

    def test_straightening(self):
        self.check(STRAIGHTENING)
