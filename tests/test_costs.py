"""Points 8.7, 8.8 and the interface's part sideloom/costs.py."""

import copy
import unittest

from model import model_told, product, used_by
from programs import ALL_FORMS, NO_INPUTS, random_programs
from sideloom.costs import calls_told, loop_calls, loop_writings, plain_calls, plain_cells, rounds_of, writings_told
from sideloom.errors import BadStep
from sideloom.weave import woven

FREE = ("read", 0, 0, (1,))
ONE = ("each", "neg", FREE)
THREE = ("pick", ONE, ONE, FREE)
SIX = ("fold", "add", 3, ONE)


def fill(sides, tree):
    return ("fill", 5, sides, 7, (9,) * len(sides), tree)


def run(sides, many, tree):
    return ("run", "add", 5, sides, many, 7, (9,) * (len(sides) + 1), tree)


# Loops with their rounds, calls and writings.
LOOPS = (
    (fill((2, 3), FREE), 6, 0, 6),
    (fill((2, 3), ONE), 6, 6, 6),
    (fill((2, 3), THREE), 6, 18, 6),
    (fill((2, 3), SIX), 6, 36, 6),
    (fill((), FREE), 1, 0, 1),
    (fill((), ONE), 1, 1, 1),
    (fill((2, 0), THREE), 0, 0, 0),
    (fill((0,), SIX), 0, 0, 0),
    (fill((4,), ("fold", "add", 0, ONE)), 4, 0, 4),
    (fill((4,), ("num", 3)), 4, 0, 4),
    (fill((2, 3), ("fetch", 0, 0, 1, 2, (0, 0), THREE)), 6, 24, 6),
    (fill((10, 20, 30), ONE), 6000, 6000, 6000),
    (fill((1, 1, 1, 1, 1, 1, 1, 2), ONE), 2, 2, 2),
    (fill((10**9, 10**9), THREE), 10**18, 3 * 10**18, 10**18),
    (run((2, 3), 4, FREE), 6, 24, 24),
    (run((2, 3), 4, ONE), 6, 48, 24),
    (run((2, 3), 4, THREE), 6, 96, 24),
    (run((), 4, ONE), 1, 8, 4),
    (run((), 0, ONE), 1, 0, 0),
    (run((2,), 0, SIX), 2, 0, 0),
    (run((0,), 5, SIX), 0, 0, 0),
    (run((3,), 1, FREE), 3, 3, 3),
    (run((3,), 5, ("fold", "max", 2, FREE)), 3, 45, 15),
    (run((10**9,), 10**9, ONE), 10**9, 2 * 10**18, 10**18),
)
# Steps behind step 0 (2, 3), step 1 (2,), step 2 () and step 3 (0, 3), with the plain way's calls and cells.
STEPS = (
    (("in", (2, 2)), 0, 0),
    (("num", 5), 0, 1),
    (("count", (2, 3), 0), 0, 6),
    (("each", "neg", 0), 6, 6),
    (("each", "neg", 2), 1, 1),
    (("each", "neg", 3), 0, 0),
    (("pair", "add", 0, 1), 6, 6),
    (("pair", "add", 1, 2), 2, 2),
    (("pair", "add", 0, 0), 6, 6),
    (("pick", 1, 2, 0), 6, 6),
    (("pick", 2, 2, 2), 1, 1),
    (("turn", 0, (1, 0)), 0, 6),
    (("flip", 0, 0), 0, 6),
    (("cut", 0, 1, 0, 2, 1), 0, 4),
    (("spread", 0, 0, 4), 0, 24),
    (("lay", 0, (6,)), 0, 6),
    (("join", 0, 0, 0), 0, 12),
    (("fetch", 0, 1), 6, 6),
    (("fetch", 1, 2), 1, 1),
    (("fetch", 0, 0), 18, 18),
    (("fetch", 1, 3), 0, 0),
    (("fold", "add", 0, 0), 6, 3),
    (("fold", "add", 0, 1), 6, 2),
    (("fold", "add", 3, 0), 0, 3),
    (("fold", "add", 3, 1), 0, 0),
    (("run", "add", 0, 0), 6, 6),
    (("run", "add", 0, 1), 6, 6),
    (("run", "add", 3, 0), 0, 0),
)
AHEAD = (("in", (2, 3)), ("in", (2,)), ("in", ()), ("in", (0, 3)))


class Loops(unittest.TestCase):
    def test_each_loop(self):
        for loop, rounds, calls, writings in LOOPS:
            self.assertEqual((rounds_of(loop), loop_calls(loop), loop_writings(loop)), (rounds, calls, writings), loop)

    def test_strides_do_not_matter(self):
        for strides in ((0, 0), (-5, 10**9), (1, 1)):
            self.assertEqual(loop_calls(("fill", 0, (2, 3), -99, strides, ONE)), 6)
            self.assertEqual(loop_writings(("run", "max", 0, (2,), 3, -99, strides, ONE)), 6)
            self.assertEqual(rounds_of(("run", "max", 0, (2,), 3, -99, strides, ONE)), 2)

    def test_sums(self):
        loops = tuple([loop for loop, rounds, calls, writings in LOOPS])
        self.assertEqual(calls_told(((), loops, ())), sum([calls for loop, rounds, calls, writings in LOOPS]))
        self.assertEqual(writings_told(((), loops, ())), sum([writings for loop, rounds, calls, writings in LOOPS]))
        self.assertEqual(calls_told(((), loops[1:3], ())), 24)
        self.assertEqual(writings_told(((), loops[13:16], ())), 10**18 + 48)

    def test_no_loops(self):
        self.assertEqual((calls_told((((0, 2),), (), ())), writings_told((((0, 2),), (), ()))), (0, 0))


class PlainWay(unittest.TestCase):
    def test_each_form(self):
        self.assertEqual(len({step[0] for step, calls, cells in STEPS}), 15)
        for step, calls, cells in STEPS:
            program = (AHEAD + (step,), (4,))
            self.assertEqual((plain_calls(program), plain_cells(program)), (calls, cells), step)

    def test_sums(self):
        steps = AHEAD + tuple([step for step, calls, cells in STEPS])
        self.assertEqual(plain_calls((steps, (0,))), sum([calls for step, calls, cells in STEPS]))
        self.assertEqual(plain_cells((steps, (0,))), sum([cells for step, calls, cells in STEPS]))

    def test_steps_that_nothing_uses_count_too(self):
        program = ((("in", (2,)), ("each", "neg", 0), ("num", 1)), (2,))
        self.assertEqual((plain_calls(program), plain_cells(program)), (2, 3))

    def test_programs(self):
        self.assertEqual((plain_calls(ALL_FORMS), plain_cells(ALL_FORMS)), (102, 133))
        self.assertEqual((plain_calls(NO_INPUTS), plain_cells(NO_INPUTS)), (6, 8))
        weft = woven(ALL_FORMS)
        self.assertEqual((calls_told(weft), writings_told(weft)), (102, 44))

    def test_programs_that_are_not_good(self):
        for program, fault in ((((("in", (2,)), ("flip", 0, 1)), (1,)), (1, "side")), (((("num", 1),), ()), (1, "out")),
                               (((("each", "neg", 0),), (0,)), (0, "name"))):
            for function in (plain_calls, plain_cells):
                with self.assertRaises(BadStep) as taken:
                    function(program)
                self.assertEqual((taken.exception.at, taken.exception.why), fault)

    def test_programs_by_chance(self):
        for program in random_programs(87, 200):
            sides = model_told(program)[0]
            calls = 0
            for k, step in enumerate(program[0]):
                if step[0] in ("each", "pair", "pick", "fetch"):
                    calls += product(sides[k])
                if step[0] in ("fold", "run"):
                    calls += product(sides[used_by(step)[0]])
            cells = [product(sides[k]) for k, step in enumerate(program[0]) if step[0] != "in"]
            self.assertEqual((plain_calls(program), plain_cells(program)), (calls, sum(cells)))

    def test_what_is_handed_in_stays(self):
        program = copy.deepcopy(ALL_FORMS)
        weft = woven(program)
        for function in (plain_calls, plain_cells):
            function(program)
        for function in (calls_told, writings_told):
            function(weft)
        self.assertEqual((program, weft), (ALL_FORMS, woven(ALL_FORMS)))


if __name__ == "__main__":
    unittest.main()
