"""The examples of the document, as they are written."""
import unittest

ORDERS = '''
from sparecells.lots import floors, held, least_lots, needed
from sparecells.orders import best_order, full_width, least_cells, many_within, order_at, prices, spare_cells, sure_ahead, turned_order, width, width_of
from sparecells.recipes import Recipe, beside, turned, used, users_of, without
chain = Recipe(3, [[0, 1], [1, 2], [2]])
[needed(chain, [0]), held(chain, [0]), prices(chain, [0, 1, 2]), width_of(chain, [2, 1, 0]), width(chain), best_order(chain), many_within(chain, 3), least_cells(chain)]
# [[1, 2], 3, [3, 3, 3], 4, 3, [0, 1, 2], 1, 4]
tree = Recipe(5, [[0, 1, 2], [3, 4], [0], [3]])
[width(tree), floors(tree), least_lots(tree), many_within(tree, 5), order_at(tree, 5, 1), sure_ahead(tree), spare_cells(tree)]
# [5, [5, 4, 4, 4, 4], ([0], [0, 1, 2, 3]), 9, [0, 1, 3, 2], [(0, 2)], 1]
[users_of(tree, 3), used(without(chain, [0])), width(beside(chain, chain)), full_width(tree), turned(chain).needs(), least_cells(turned(chain)), turned_order(chain, [0, 1, 2])]
# [[1, 3], [1, 2], 6, 5, [[0], [0, 1], [1, 2]], 4, [2, 1, 0]]
'''

# Of the examples of section 12 those lines that need no more than recipes and orders.
CELLS = '''
from sparecells.orders import lasting_cells, least_cells
from sparecells.recipes import Recipe
one, other = Recipe(1, [[0], []]), Recipe(1, [[0], [0]])
[least_cells(one), least_cells(other), lasting_cells(one), lasting_cells(other)]
# [2, 3, 3, 3]
'''


class ExamplesTest(unittest.TestCase):
    def check(self, text):
        names = {}
        lines = text.strip().split("\n")
        checked = 0
        for line, told in zip(lines, lines[1:] + [""]):
            if told.startswith("# "):
                self.assertEqual(repr(eval(line, names)), told[2:], line)
                checked += 1
            elif not line.startswith("# "):
                exec(line, names)
        self.assertEqual(checked, text.count("\n# "))

    def test_orders(self):
        self.check(ORDERS)

    def test_cells(self):
        self.check(CELLS)
