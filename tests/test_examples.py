"""The examples of the document, as they are written."""
import unittest

ORDERS = '''
from sparecells.lots import floors, held, least_lots, needed
from sparecells.orders import best_order, full_width, least_cells, many_within, order_at, prices, spare_cells, sure_ahead, turned_order, width, width_of
from sparecells.recipes import Recipe, beside, turned, used, users_of, without
chain = Recipe(3, [[0, 1], [1, 2], [2]])
[needed(chain, [0]), held(chain, [0]), prices(chain, [0, 1, 2]), width_of(chain, [2, 1, 0]), width(chain), best_order(chain), many_within(chain, 3), least_cells(chain)]
# [[1, 2], 3, [3, 3, 3], 4, 3, [0, 1, 2], 1, 4]
tree = Recipe(5, [[0, 1, 2], [3, 4], [0], [3]])
[width(tree), floors(tree), least_lots(tree), many_within(tree, 5), order_at(tree, 5, 1), sure_ahead(tree), spare_cells(tree)]
# [5, [5, 4, 4, 4, 4], ([0], [0, 1, 2, 3]), 9, [0, 1, 3, 2], [(0, 2)], 1]
[users_of(tree, 3), used(without(chain, [0])), width(beside(chain, chain)), full_width(tree), turned(chain).needs(), least_cells(turned(chain)), turned_order(chain, [0, 1, 2])]
# [[1, 3], [1, 2], 6, 5, [[0], [0, 1], [1, 2]], 4, [2, 1, 0]]
'''

RESTS = '''
from sparecells.barriers import barrier, border, is_barrier, reached, stuck_lots, way_to
from sparecells.recipes import Recipe
from sparecells.rests import best_road, height, is_rest, least_height, led_through, rests
tree = Recipe(5, [[0, 1, 2], [3, 4], [0], [3]])
[barrier(tree, 5), is_barrier(tree, 4, []), reached(tree, 5)[:4], way_to(tree, 5, [1, 3]), is_barrier(Recipe(2, [[1], [0]]), 1, [])]
# [None, True, [[], [0], [0, 1], [0, 1, 2]], [1, 3], True]
[is_barrier(Recipe(4, [[0, 1], [0, 1], [2, 3]]), 3, []), is_barrier(Recipe(4, [[0, 1], [0, 1], [2, 3]]), 3, [[2]])]
# [True, True]
chain = Recipe(3, [[0, 1], [1, 2], [2]])
[reached(chain, 2), barrier(chain, 2), reached(chain, 3), border(chain, 3), is_rest(chain, [], [0]), rests(chain, [0]), height(chain, [], [2, 1]), least_height(chain, [], [0, 1])]
# [[], [], [[], [0], [0, 1]], [([], 1), ([], 2), ([0], 2)], True, [[0], [0, 1], [0, 1, 2]], 4, 3]
led_through(tree, [1, 3, 0, 2], [], [0])
# [0, 1, 3, 2]
'''

COURSES = '''
from sparecells.courses import busiest, first_wrong, lots_passed, makes_image, states, why_wrong
from sparecells.recipes import Recipe
swap = Recipe(2, [[1], [0]])
course = [("make", 0, 2), ("make", 1, 1), ("copy", 2, 0)]
[states(swap, 3, course)[1], makes_image(swap, 3, course), lots_passed(swap, 3, course), busiest(swap, 3, course)]
# [[('old', 0), ('old', 1), ('new', 0)], True, [[], [0], [0, 1], [0, 1]], 2]
[why_wrong(swap, [("old", 0), ("old", 1)], ("make", 0, 1)), first_wrong(swap, 3, [("make", 0, 1), ("copy", 2, 0)])]
# [[('lacks', 1)], 0]
'''

STRAIGHTENING = '''
from sparecells.recipes import Recipe
from sparecells.straightening import is_step, loses_nothing, order_of, row_width, straightened
swap = Recipe(2, [[1], [0]])
[row_width(swap, [[], [0], [], [1], [0, 1]]), loses_nothing(swap, [[], [0], [], [1], [0, 1]]), order_of(swap, [[], [], [1], [0, 1]])]
# [2, False, [1, 0]]
[is_step(swap, [[], [0], [], [1], [0, 1]], [[], [], [], [1], [0, 1]]), order_of(swap, straightened(swap, [[], [0], [], [1], [0, 1]])[-1])]
# [True, [1, 0]]
'''

CUTS = r'''
from sparecells.cuts import can_lie, day, harmless, is_spoiling, many_ends, spoiling, stands, worst_day
from sparecells.recipes import Recipe
swap = Recipe(2, [[1], [0]])
both = [("make", 0, 1), ("make", 1, 0)]
[day(swap, 2, both, []), day(swap, 2, both, [0]), stands(swap, 2, both), many_ends(swap, 2, both), is_spoiling(swap, 2, both, spoiling(swap, 2, both)), can_lie(swap, 2, both, 0), worst_day(swap, 2, both)]
# [[('new', 1), ('new', 0)], [('new', 1), None], False, 4, True, [None, ('new', 1)], [None, None]]
twice = [("copy", 0, 1), ("copy", 0, 0), ("make", 0, 1), ("copy", 1, 0)]
[harmless(Recipe(2, [[0]]), 2, twice), spoiling(Recipe(2, [[0]]), 2, twice), stands(swap, 3, [("make", 0, 2), ("make", 1, 1), ("copy", 2, 0)])]
# [[0, 1, 2, 3], [1, 2], True]
'''

PLANS = r'''
from sparecells.plans import can_be, fewest_moves, is_moves, is_plan, loose_makes, makes_by, plan
from sparecells.recipes import Recipe
swap = Recipe(2, [[1], [0]])
[can_be(swap, 2), is_plan(swap, 3, plan(swap, 3)), makes_by(swap, 3, [0, 1]), loose_makes(swap, 2, [0, 1])]
# [False, True, [('make', 0, 2), ('make', 1, 1)], [('make', 0, 1), ('make', 1, 0)]]
[fewest_moves(3, [0, 1], [1, 0]), is_moves(3, [0, 1], [1, 0], [(0, 2), (1, 0), (2, 1)])]
# [3, True]
'''

PROFILES = r'''
from sparecells.orders import lasting_cells, least_cells
from sparecells.profiles import down, is_leading_order, is_third, leading_order, profile, stand_alike, third, up
from sparecells.recipes import Recipe, beside, turned
steep = Recipe(3, [[0, 1, 2], [0, 1, 2]])
swap = Recipe(2, [[1], [0]])
[profile(steep), profile(swap), profile(beside(steep, swap)), down(steep, 2), down(steep, 3), down(steep, 4), up(steep, 4)]
# [([(3, 3), (4, 2)], [(2, 2)], 4), ([(2, 2)], [(2, 2)], 2), ([(5, 5), (6, 4)], [(4, 4)], 6), None, 3, 2, 2]
[stand_alike(swap, Recipe(3, [[0], [2]])), stand_alike(steep, swap), is_third(steep, swap, third(steep, swap)), profile(turned(steep))]
# [True, False, True, ([(2, 2)], [(3, 3), (4, 2)], 4)]
one, other = Recipe(1, [[0], []]), Recipe(1, [[0], [0]])
[stand_alike(one, other), least_cells(one), least_cells(other), lasting_cells(one), lasting_cells(other)]
# [True, 2, 3, 3, 3]
[is_leading_order(Recipe(2, [[], [0, 1], []]), [0, 1, 2]), leading_order(Recipe(2, [[], [0, 1], []]))[0], profile(Recipe(2, [[], [0, 1], []]))]
# [False, 1, ([(2, 1)], [(3, 1)], 3)]
'''

BESIDES = r'''
from sparecells.besides import copy_step, full_width_beside, full_width_of_copies, is_shuffled, profile_beside, risen, shuffled, sunk
from sparecells.recipes import Recipe
steep, swap = Recipe(3, [[0, 1, 2], [0, 1, 2]]), Recipe(2, [[1], [0]])
[sunk(steep, swap, 5), sunk(steep, swap, 6), risen(steep, swap, 5), full_width_beside(steep, swap), profile_beside(steep, swap)]
# [(3, 2), (2, 2), (2, 2), 6, ([(5, 5), (6, 4)], [(4, 4)], 6)]
[[full_width_of_copies(steep, many) for many in (1, 2, 3, 100)], copy_step(steep), is_shuffled(steep, [0, 1], swap, [1, 0], shuffled(steep, [0, 1], swap, [1, 0])), is_shuffled(steep, [0, 1], swap, [1, 0], [0, 1, 3, 2])]
# [[4, 7, 10, 301], 3, True, True]
'''

PAPERS = r'''
from sparecells.papers import lots_text, read_lots, read_recipe, recipe_text
from sparecells.recipes import Recipe
from sparecells.windows import is_window_order, window, window_order, window_width
[window(4, 1, 0).needs(), window_width(4, 1, 0), window_order(3, 1, 0), window_width(50, 3, 2), is_window_order(50, 3, 2, window_order(50, 3, 2))]
# [[[0], [0, 1], [1, 2], [2, 3]], 4, [2, 1, 0], 52, True]
[recipe_text(Recipe(2, [[0, 1], []])), read_recipe("old 1\nneeds 0") == Recipe(1, [[0]]), lots_text([[0, 2], []]), read_lots("")]
# ['old 2\nneeds 0 1\nneeds', True, '0 2\n-', []]
'''

DEVICE = r'''
from sparecells.device import Device
from sparecells.recipes import Recipe
device = Device(Recipe(2, [[1], [0]]), 3)
[device.make(0, 2), device.cut(("make", 1, 1)), device.state(), device.done(), device.ways_on(), device.can_finish(), device.is_plan_on(device.plan_on())]
# [None, None, [('old', 0), None, ('new', 0)], 1, [[0]], True, True]
'''

SCRIPTS = r'''
from sparecells.device import Device
from sparecells.recipes import Recipe
from sparecells.scripts import play, script_text, shortened
swap = Recipe(2, [[1], [0]])
play(Device(swap, 3), [("make", 0, 1), ("make", 0, 2), ("cut", ("copy", 2, 0)), ("lot_there",), ("can_finish",), ("undo",), ("can_finish",)])
# [('refused', 'Refused'), ('done',), ('done',), ('told', [0]), ('told', False), ('done',), ('told', True)]
[script_text([("make", 0, 2), ("try", [("cut", ("make", 1, 1)), ("undo",)])]), shortened(swap, 3, [("make", 0, 2), ("lead", 2, 1), ("make", 0, 2)])]
# ['make 0 2\ntry\n  cut make 1 1\n  undo\nend', [('make', 0, 2), ('lead', 2, 1)]]
'''


class ExamplesTest(unittest.TestCase):
    def check(self, text):
        names = {}
        lines = text.strip().split("\n")
        checked = 0
        for line, told in zip(lines, lines[1:] + [""]):
            if told.startswith("# "):
                self.assertEqual(repr(eval(line, names)), told[2:], line)
                checked += 1
            elif not line.startswith("# "):
                exec(line, names)
        self.assertEqual(checked, text.count("\n# "))

    def test_orders(self):
        self.check(ORDERS)

    def test_rests(self):
        self.check(RESTS)

    def test_courses(self):
        self.check(COURSES)

    def test_straightening(self):
        self.check(STRAIGHTENING)

    def test_cuts(self):
        self.check(CUTS)

    def test_plans(self):
        self.check(PLANS)

    def test_profiles(self):
        self.check(PROFILES)

    def test_besides(self):
        self.check(BESIDES)

    def test_papers(self):
        self.check(PAPERS)

    def test_device(self):
        self.check(DEVICE)

    def test_scripts(self):
        self.check(SCRIPTS)
