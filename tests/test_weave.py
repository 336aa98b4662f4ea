"""Points 7.5 to 7.8 and the interface's part sideloom/weave.py."""

import copy
import unittest

from programs import ALL_FORMS, NO_INPUTS, random_programs
from sideloom.errors import BadStep
from sideloom.weave import kept_steps, live_steps, woven
from weaving_model import Weaving

BAD = (
    (((("in", (2,)), ("flip", 0, 1)), (1,)), (1, "side")),
    (((("in", (2,)), ("each", "neg", 1)), (1,)), (1, "name")),
    (((("in", (2,)),), ()), (1, "out")),
    (((("num", 1),) * 41, (0,)), (40, "many")),
)


class Live(unittest.TestCase):
    def told(self, steps, outs, live):
        self.assertEqual(live_steps((steps, outs)), live)
        self.assertIs(type(live_steps((steps, outs))), list)

    def test_live_steps(self):
        steps = (("in", (2,)), ("in", (2,)), ("each", "neg", 0), ("each", "neg", 1), ("pair", "add", 2, 0),
                 ("pick", 3, 2, 3), ("num", 1))
        self.told(steps, (4,), [0, 2, 4])
        self.told(steps, (3,), [1, 3])
        self.told(steps, (5,), [0, 1, 2, 3, 5])
        self.told(steps, (6, 6), [6])
        self.told(steps, (6, 2, 1), [0, 1, 2, 6])
        self.told(steps, (0,), [0])

    def test_all_fifteen_forms(self):
        self.told(ALL_FORMS[0], ALL_FORMS[1], list(range(18)))
        self.told(ALL_FORMS[0], (5,), [0, 1, 4, 5])
        self.told(NO_INPUTS[0], NO_INPUTS[1], [0, 1, 2, 3])

    def test_lists_are_the_askers_own(self):
        live_steps(NO_INPUTS).append(9)
        self.assertEqual(live_steps(NO_INPUTS), [0, 1, 2, 3])


class Kept(unittest.TestCase):
    """Each reason to keep a step by itself, and each just missed. Step 0 is (2, 3), step 1 is (2,), step 2 is (3,)."""

    def told(self, steps, outs, kept):
        program = ((("in", (2, 3)), ("in", (2,)), ("in", (3,))) + steps, outs)
        self.assertEqual(kept_steps(program), kept)
        self.assertEqual(kept_steps(program), [store[0] for store in woven(program)[0]][3:])
        self.assertIs(type(kept_steps(program)), list)

    def test_a_run_or_a_join(self):
        self.told((("run", "add", 0, 0), ("each", "neg", 3)), (4,), [3, 4])
        self.told((("run", "add", 0, 1), ("flip", 3, 1)), (4,), [3, 4])
        self.told((("join", 0, 0, 0), ("each", "neg", 3)), (4,), [3, 4])
        self.told((("join", 1, 2, 0), ("fold", "add", 3, 0)), (4,), [3, 4])
        # Those that are not live are not kept.
        self.told((("run", "add", 0, 0), ("join", 0, 0, 0), ("num", 1)), (5,), [5])

    def test_an_outs_step(self):
        self.told((("each", "neg", 0), ("each", "abs", 3)), (4,), [4])
        self.told((("each", "neg", 0), ("each", "abs", 3)), (4, 3), [3, 4])
        self.told((("each", "neg", 0), ("each", "abs", 3)), (4, 4), [4])
        for step in (("num", 5), ("count", (2,), 0), ("turn", 0, (1, 0)), ("flip", 0, 0), ("cut", 0, 0, 0, 1, 1),
                     ("spread", 0, 0, 2), ("fold", "add", 0, 0), ("pair", "add", 0, 1), ("pick", 0, 0, 0),
                     ("fetch", 0, 1), ("each", "neg", 0), ("run", "add", 1, 0), ("join", 1, 1, 0)):
            self.told((step,), (3,), [3])

    def test_in_and_lay_are_never_kept(self):
        self.told((), (0, 1, 0), [])
        self.told((("lay", 0, (6,)),), (3,), [])
        self.told((("lay", 0, (6,)), ("lay", 3, (3, 2)), ("pair", "add", 4, 4), ("lay", 4, (6, 1))), (4, 5, 6), [5])

    def test_a_lay_uses_it(self):
        self.told((("each", "neg", 0), ("lay", 3, (6,))), (4,), [3])
        self.told((("flip", 0, 0), ("lay", 3, (6,))), (4,), [3])
        self.told((("num", 7), ("lay", 3, (1,))), (4,), [3])
        self.told((("count", (2, 2), 0), ("lay", 3, (4,)), ("each", "neg", 4)), (5,), [3, 5])
        self.told((("flip", 0, 0), ("lay", 3, (6,)), ("each", "neg", 3)), (5,), [5])

    def test_a_fetch_uses_it_as_the_first_one(self):
        self.told((("each", "neg", 0), ("fetch", 3, 1)), (4,), [3, 4])
        self.told((("count", (2, 2), 0), ("fetch", 3, 1)), (4,), [3, 4])
        self.told((("num", 7), ("spread", 3, 0, 2), ("fetch", 4, 1)), (5,), [4, 5])
        self.told((("fold", "add", 0, 0), ("fetch", 3, 1)), (4,), [3, 4])
        self.told((("fetch", 0, 1), ("fetch", 3, 1)), (4,), [3, 4])
        self.told((("pick", 1, 1, 1), ("fetch", 3, 1)), (4,), [3, 4])
        for step in (("turn", 0, (1, 0)), ("flip", 0, 0), ("cut", 0, 1, 0, 2, 1), ("spread", 0, 0, 2),
                     ("lay", 0, (3, 2))):
            self.told((step, ("fetch", 3, 1)), (4,), [4])
            self.told((step, ("flip", 3, 0), ("fetch", 4, 1), ("fetch", 4, 2)), (5, 6), [5, 6])
        # A fetch that is not live asks for nothing.
        self.told((("count", (2, 2), 0), ("fetch", 3, 1), ("flip", 3, 0)), (5,), [5])

    def test_it_is_used_more_than_once(self):
        neg = ("each", "neg", 0)
        self.told((neg, ("pair", "add", 3, 3)), (4,), [3, 4])
        self.told((neg, ("each", "abs", 3), ("each", "not", 3), ("pair", "add", 4, 5)), (6,), [3, 6])
        self.told((neg, ("flip", 3, 0), ("pair", "add", 3, 4)), (5,), [3, 5])
        self.told((neg, ("pick", 0, 3, 3)), (4,), [3, 4])
        self.told((neg, ("pair", "add", 0, 3)), (4,), [4])
        self.told((neg, ("join", 3, 3, 0)), (4,), [3, 4])
        self.told((("fold", "add", 0, 0), ("pair", "add", 3, 3)), (4,), [3, 4])
        self.told((("fetch", 0, 1), ("pair", "add", 3, 3)), (4,), [3, 4])

    def test_it_is_used_once_by_a_live_step_and_by_one_that_is_not(self):
        self.told((("each", "neg", 0), ("each", "abs", 3), ("each", "not", 3)), (5,), [5])
        self.told((("each", "neg", 0), ("pair", "add", 3, 3), ("spread", 3, 0, 2), ("each", "not", 3)), (6,), [6])

    def test_free_trees_may_be_used_often(self):
        for step in (("num", 5), ("count", (2, 3), 1), ("flip", 0, 0), ("lay", 0, (2, 3)), ("cut", 0, 0, 0, 2, 1)):
            self.told((step, ("pair", "add", 3, 3), ("pick", 3, 3, 4), ("spread", 3, 0, 2)), (5, 6), [5, 6])

    def test_a_spread_uses_it(self):
        self.told((("each", "neg", 1), ("spread", 3, 0, 2)), (4,), [3, 4])
        self.told((("each", "neg", 1), ("spread", 3, 1, 1)), (4,), [3, 4])
        self.told((("fold", "add", 0, 1), ("spread", 3, 0, 2)), (4,), [3, 4])
        self.told((("flip", 1, 0), ("spread", 3, 0, 2)), (4,), [4])
        self.told((("each", "neg", 1), ("flip", 3, 0), ("spread", 4, 0, 2)), (5,), [4, 5])

    def test_it_is_led_to_more_sides(self):
        neg = ("each", "neg", 1)
        self.told((neg, ("pair", "add", 3, 0)), (4,), [3, 4])
        self.told((neg, ("pair", "add", 0, 3)), (4,), [3, 4])
        self.told((neg, ("pick", 3, 0, 1)), (4,), [3, 4])
        self.told((neg, ("pick", 0, 3, 1)), (4,), [3, 4])
        self.told((neg, ("pick", 0, 1, 3)), (4,), [3, 4])
        self.told((neg, ("fetch", 0, 3)), (4,), [3, 4])
        self.told((("flip", 1, 0), ("pair", "add", 3, 0)), (4,), [4])
        self.told((("flip", 1, 0), ("fetch", 0, 3)), (4,), [4])

    def test_it_is_led_to_as_many_sides(self):
        neg = ("each", "neg", 1)
        self.told((neg, ("pair", "add", 3, 1)), (4,), [4])
        self.told((neg, ("pair", "add", 1, 3)), (4,), [4])
        self.told((("num", 5), neg, ("pair", "add", 4, 3)), (5,), [5])
        self.told((neg, ("pick", 1, 3, 1)), (4,), [4])
        self.told((("each", "neg", 0), ("pick", 1, 3, 1)), (4,), [4])
        self.told((neg, ("fetch", 1, 3)), (4,), [4])
        self.told((neg, ("fetch", 2, 3)), (4,), [4])

    def test_uses_that_keep_nothing(self):
        neg = ("each", "neg", 0)
        for step in (("each", "abs", 3), ("turn", 3, (1, 0)), ("flip", 3, 1), ("cut", 3, 0, 0, 1, 1),
                     ("fold", "add", 3, 1), ("run", "add", 3, 0), ("join", 3, 0, 0), ("fetch", 2, 3)):
            self.told((neg, step), (4,), [4])

    def test_a_fetch_that_uses_one_as_both(self):
        self.told((("flip", 1, 0), ("fetch", 3, 3)), (4,), [4])
        self.told((("each", "neg", 1), ("fetch", 3, 3)), (4,), [3, 4])

    def test_kept_steps_are_read_by_later_ones(self):
        # Step 4 is free since step 3 is kept, so it may be used often.
        self.told((("each", "neg", 0), ("flip", 3, 0), ("pair", "add", 4, 4), ("pair", "mul", 3, 5)), (6,), [3, 6])

    def test_programs_that_are_not_good(self):
        for program, fault in BAD:
            for function in (kept_steps, woven):
                with self.assertRaises(BadStep) as taken:
                    function(program)
                self.assertEqual((taken.exception.at, taken.exception.why), fault)


def read(store, start, *strides):
    return ("read", store, start, strides)


class Woven(unittest.TestCase):
    def told(self, steps, outs, stores, loops, ends):
        self.assertEqual(woven((steps, outs)), (stores, loops, ends))

    def one(self, steps, sides, strides, tree):
        """The last step is the one out and the one kept; in steps are as many as the stores ahead of it."""
        ins = [(k, size(step[1])) for k, step in enumerate(steps) if step[0] == "in"]
        many = len(ins)
        last = len(steps) - 1
        self.told(steps, (last,), tuple(ins) + ((last, size(sides)),), (("fill", many, sides, 0, strides, tree),),
                  ((many, sides),))

    def test_numbers_and_counts(self):
        self.one((("num", -7),), (), (), ("num", -7))
        self.one((("count", (2, 3), 1),), (2, 3), (3, 1), ("index", 0, (0, 1)))
        self.one((("count", (2, 3, 4), 0),), (2, 3, 4), (12, 4, 1), ("index", 0, (1, 0, 0)))
        self.one((("count", (4,), 0), ("flip", 0, 0)), (4,), (1,), ("index", 3, (-1,)))
        self.one((("count", (4,), 0), ("cut", 0, 0, 1, 2, 2)), (2,), (1,), ("index", 1, (2,)))
        self.one((("num", 4), ("spread", 0, 0, 3)), (3,), (1,), ("num", 4))

    def test_functions(self):
        grid = ("in", (2, 3))
        self.one((grid, ("each", "neg", 0)), (2, 3), (3, 1), ("each", "neg", read(0, 0, 3, 1)))
        self.one((grid, ("in", (2,)), ("pair", "sub", 1, 0)), (2, 3), (3, 1),
                 ("pair", "sub", read(1, 0, 1, 0), read(0, 0, 3, 1)))
        self.one((grid, ("in", ()), ("pair", "sub", 0, 1)), (2, 3), (3, 1),
                 ("pair", "sub", read(0, 0, 3, 1), read(1, 0, 0, 0)))
        self.one((("count", (2, 3), 1), ("num", 7), grid, ("pick", 0, 1, 2)), (2, 3), (3, 1),
                 ("pick", ("index", 0, (0, 1)), ("num", 7), read(0, 0, 3, 1)))
        self.one((grid, ("each", "neg", 0), ("pair", "add", 1, 0), ("each", "abs", 2)), (2, 3), (3, 1),
                 ("each", "abs", ("pair", "add", ("each", "neg", read(0, 0, 3, 1)), read(0, 0, 3, 1))))

    def test_moves(self):
        block = ("in", (2, 3, 4))
        turn = ("turn", 0, (2, 0, 1))
        self.one((block, turn), (4, 2, 3), (6, 3, 1), read(0, 0, 1, 12, 4))
        self.one((block, turn, ("flip", 1, 0)), (4, 2, 3), (6, 3, 1), read(0, 3, -1, 12, 4))
        self.one((block, turn, ("flip", 1, 0), ("cut", 2, 2, 1, 2, 1)), (4, 2, 2), (4, 2, 1), read(0, 7, -1, 12, 4))
        self.one((block, turn, ("flip", 1, 0), ("cut", 2, 2, 1, 2, 1), ("cut", 3, 0, 1, 2, 2)), (2, 2, 2), (4, 2, 1),
                 read(0, 6, -2, 12, 4))
        self.one((block, ("spread", 0, 1, 2)), (2, 2, 3, 4), (24, 12, 4, 1), read(0, 0, 12, 0, 4, 1))
        self.one((block, ("spread", 0, 3, 2)), (2, 3, 4, 2), (24, 8, 2, 1), read(0, 0, 12, 4, 1, 0))

    def test_moves_of_trees_that_are_not_free(self):
        grid = ("in", (2, 3))
        self.one((grid, ("each", "neg", 0), ("turn", 1, (1, 0))), (3, 2), (2, 1), ("each", "neg", read(0, 0, 1, 3)))
        self.one((grid, ("pair", "add", 0, 0), ("flip", 1, 1)), (2, 3), (3, 1),
                 ("pair", "add", read(0, 2, 3, -1), read(0, 2, 3, -1)))
        self.one((("in", (2, 3, 4)), ("fold", "add", 0, 1), ("flip", 1, 0), ("cut", 2, 1, 1, 2, 2)), (2, 2), (2, 1),
                 ("fold", "add", 3, read(0, 13, -12, 2, 4)))

    def test_folds(self):
        grid = ("in", (2, 3))
        self.one((grid, ("fold", "add", 0, 0)), (3,), (1,), ("fold", "add", 2, read(0, 0, 1, 3)))
        self.one((grid, ("fold", "max", 0, 1)), (2,), (1,), ("fold", "max", 3, read(0, 0, 3, 1)))
        self.one((grid, ("each", "neg", 0), ("fold", "add", 1, 1)), (2,), (1,),
                 ("fold", "add", 3, ("each", "neg", read(0, 0, 3, 1))))
        block = ("in", (2, 3, 2))
        self.one((block, ("fold", "add", 0, 2), ("fold", "max", 1, 1)), (2,), (1,),
                 ("fold", "max", 3, ("fold", "add", 2, read(0, 0, 6, 2, 1))))
        self.one((block, ("fold", "add", 0, 0), ("fold", "max", 1, 0)), (2,), (1,),
                 ("fold", "max", 3, ("fold", "add", 2, read(0, 0, 1, 2, 6))))

    def test_a_product_of_two_tables(self):
        steps = (("in", (2, 3)), ("in", (3, 2)), ("spread", 0, 2, 2), ("spread", 1, 0, 2), ("pair", "mul", 2, 3),
                 ("fold", "add", 4, 1))
        self.one(steps, (2, 2), (2, 1), ("fold", "add", 3, ("pair", "mul", read(0, 0, 3, 0, 1), read(1, 0, 0, 1, 2))))

    def test_fetches(self):
        tall, wide, asked = ("in", (3, 2)), ("in", (2, 3)), ("in", (2,))
        for first, moves, start, stride, many, other in (
                (tall, (), 0, 2, 3, 1), (wide, (("turn", 0, (1, 0)),), 0, 1, 3, 3),
                (tall, (("flip", 0, 0),), 4, -2, 3, 1), (tall, (("flip", 0, 1),), 1, 2, 3, -1),
                (tall, (("cut", 0, 0, 1, 2, 1),), 2, 2, 2, 1),
                (asked, (("spread", 0, 0, 3),), 0, 0, 3, 1), (wide, (("lay", 0, (3, 2)),), 0, 2, 3, 1)):
            last = ("fetch", 2 if moves else 0, 1)
            self.one((first, asked) + moves + (last,), (2, 2), (2, 1),
                     ("fetch", 0, start, stride, many, (0, other), read(1, 0, 1, 0)))
        self.one((tall, ("in", ()), ("fetch", 0, 1)), (2,), (1,), ("fetch", 0, 0, 2, 3, (1,), read(1, 0, 0)))
        self.one((asked, wide, ("each", "neg", 1), ("fetch", 0, 2)), (2, 3), (3, 1),
                 ("fetch", 0, 0, 1, 2, (0, 0), ("each", "neg", read(1, 0, 3, 1))))
        self.one((tall, ("num", 5), ("fetch", 0, 1)), (2,), (1,), ("fetch", 0, 0, 2, 3, (1,), ("num", 5)))
        self.one((tall, ("count", (4,), 0), ("fetch", 0, 1)), (4, 2), (2, 1),
                 ("fetch", 0, 0, 2, 3, (0, 1), ("index", 0, (1, 0))))

    def test_a_fetch_moved_and_folded(self):
        steps = (("in", (3, 2)), ("in", (4,)), ("fetch", 0, 1), ("flip", 2, 0))
        self.one(steps, (4, 2), (2, 1), ("fetch", 0, 0, 2, 3, (0, 1), read(1, 3, -1, 0)))
        self.one(steps[:3] + (("fold", "add", 2, 0),), (2,), (1,),
                 ("fold", "add", 4, ("fetch", 0, 0, 2, 3, (1, 0), read(1, 0, 0, 1))))

    def test_a_fetch_from_one_that_is_kept_for_it(self):
        steps = (("in", (3,)), ("each", "neg", 0), ("in", (2,)), ("fetch", 1, 2))
        self.told(steps, (3,), ((0, 3), (1, 3), (2, 2), (3, 2)), (
            ("fill", 1, (3,), 0, (1,), ("each", "neg", read(0, 0, 1))),
            ("fill", 3, (2,), 0, (1,), ("fetch", 1, 0, 1, 3, (0,), read(2, 0, 1))),
        ), ((3, (2,)),))

    def test_runs(self):
        grid = ("in", (2, 3))
        self.told((grid, ("run", "add", 0, 1)), (1,), ((0, 6), (1, 6)),
                  (("run", "add", 1, (2,), 3, 0, (3, 1), read(0, 0, 3, 1)),), ((1, (2, 3)),))
        self.told((grid, ("run", "max", 0, 0)), (1,), ((0, 6), (1, 6)),
                  (("run", "max", 1, (3,), 2, 0, (1, 3), read(0, 0, 1, 3)),), ((1, (2, 3)),))
        self.told((grid, ("flip", 0, 1), ("each", "neg", 1), ("run", "mul", 2, 0)), (3,), ((0, 6), (3, 6)),
                  (("run", "mul", 1, (3,), 2, 0, (1, 3), ("each", "neg", read(0, 2, -1, 3))),), ((1, (2, 3)),))
        self.told((("in", (2, 3, 4)), ("run", "or", 0, 1)), (1,), ((0, 24), (1, 24)),
                  (("run", "or", 1, (2, 4), 3, 0, (12, 1, 4), read(0, 0, 12, 1, 4)),), ((1, (2, 3, 4)),))

    def test_joins(self):
        self.told((("in", (2, 3)), ("in", (2, 1)), ("join", 0, 1, 1)), (2,), ((0, 6), (1, 2), (2, 8)), (
            ("fill", 2, (2, 3), 0, (4, 1), read(0, 0, 3, 1)),
            ("fill", 2, (2, 1), 3, (4, 1), read(1, 0, 1, 1)),
        ), ((2, (2, 4)),))
        self.told((("in", (2, 3)), ("in", (1, 3)), ("each", "neg", 1), ("join", 0, 2, 0)), (3,),
                  ((0, 6), (1, 3), (3, 9)), (
            ("fill", 2, (2, 3), 0, (3, 1), read(0, 0, 3, 1)),
            ("fill", 2, (1, 3), 6, (3, 1), ("each", "neg", read(1, 0, 3, 1))),
        ), ((2, (3, 3)),))
        self.told((("in", (2, 2, 2)), ("join", 0, 0, 1)), (1,), ((0, 8), (1, 16)), (
            ("fill", 1, (2, 2, 2), 0, (8, 2, 1), read(0, 0, 4, 2, 1)),
            ("fill", 1, (2, 2, 2), 4, (8, 2, 1), read(0, 0, 4, 2, 1)),
        ), ((1, (2, 4, 2)),))

    def test_lays(self):
        grid = ("in", (2, 3))
        self.told((grid, ("lay", 0, (6,)), ("lay", 1, (3, 2)), ("each", "neg", 2)), (3, 2, 1), ((0, 6), (3, 6)),
                  (("fill", 1, (3, 2), 0, (2, 1), ("each", "neg", read(0, 0, 2, 1))),),
                  ((1, (3, 2)), (0, (3, 2)), (0, (6,))))
        self.told((grid, ("each", "neg", 0), ("lay", 1, (6,)), ("flip", 2, 0)), (3, 2), ((0, 6), (1, 6), (3, 6)), (
            ("fill", 1, (2, 3), 0, (3, 1), ("each", "neg", read(0, 0, 3, 1))),
            ("fill", 2, (6,), 0, (1,), read(1, 5, -1)),
        ), ((2, (6,)), (1, (6,))))
        # A lay of a flipped in step: the flip is kept, so that its cells stand in order.
        self.told((grid, ("flip", 0, 1), ("lay", 1, (6,)), ("lay", 2, (3, 2))), (3,), ((0, 6), (1, 6)),
                  (("fill", 1, (2, 3), 0, (3, 1), read(0, 2, 3, -1)),), ((1, (3, 2)),))

    def test_in_steps_and_outs(self):
        self.told((("in", (2,)),), (0, 0), ((0, 2),), (), ((0, (2,)), (0, (2,))))
        self.told((("in", (2,)), ("in", (3,)), ("num", 5), ("in", ())), (2, 0), ((0, 2), (1, 3), (2, 1), (3, 1)),
                  (("fill", 2, (), 0, (), ("num", 5)),), ((2, ()), (0, (2,))))
        self.told((("in", (2,)), ("each", "neg", 0)), (1, 0, 1), ((0, 2), (1, 2)),
                  (("fill", 1, (2,), 0, (1,), ("each", "neg", read(0, 0, 1))),), ((1, (2,)), (0, (2,)), (1, (2,))))

    def test_sides_of_nought(self):
        empty = ("in", (2, 0))
        self.one((empty, ("fold", "add", 0, 1)), (2,), (1,), ("fold", "add", 0, read(0, 0, 0, 1)))
        self.one((empty, ("fold", "add", 0, 0)), (0,), (1,), ("fold", "add", 2, read(0, 0, 1, 0)))
        self.one((empty, ("flip", 0, 1)), (2, 0), (0, 1), read(0, -1, 0, -1))
        self.told((empty, ("run", "add", 0, 1)), (1,), ((0, 0), (1, 0)),
                  (("run", "add", 1, (2,), 0, 0, (0, 1), read(0, 0, 0, 1)),), ((1, (2, 0)),))
        self.told((empty, ("in", (2, 1)), ("join", 0, 1, 1)), (2,), ((0, 0), (1, 2), (2, 2)), (
            ("fill", 2, (2, 0), 0, (1, 1), read(0, 0, 0, 1)),
            ("fill", 2, (2, 1), 0, (1, 1), read(1, 0, 1, 1)),
        ), ((2, (2, 1)),))

    def test_steps_that_are_not_live_have_no_part(self):
        steps = (("in", (2,)), ("run", "add", 0, 0), ("each", "neg", 0), ("in", (3,)), ("join", 0, 3, 0))
        self.told(steps, (2,), ((0, 2), (2, 2), (3, 3)),
                  (("fill", 1, (2,), 0, (1,), ("each", "neg", read(0, 0, 1))),), ((1, (2,)),))

    def test_kinds(self):
        weft = woven(ALL_FORMS)
        self.assertEqual([type(part) for part in (weft,) + weft], [tuple] * 4)
        for part in weft[0] + weft[1] + weft[2]:
            self.assertIs(type(part), tuple)

    def test_all_fifteen_forms(self):
        self.assertEqual(kept_steps(ALL_FORMS), [6, 8, 11, 15, 17])
        product = ("pair", "mul", ("each", "neg", read(0, 0, 3, 1)), read(1, 0, 1, 0))
        fetched = ("fetch", 4, 0, 4, 2, (0, 1, 0, 2), read(2, 0, 3, 0, 1, 0))
        less = ("pair", "sub", read(5, 0, 6, 2, 1), read(5, 0, 6, 2, 1))
        self.told(ALL_FORMS[0], ALL_FORMS[1], ((0, 6), (1, 2), (6, 6), (8, 6), (11, 8), (15, 12), (17, 12)), (
            ("fill", 2, (2, 3), 0, (3, 1), ("pick", ("index", 0, (0, 1)), product, ("num", -3))),
            ("fill", 3, (3, 2), 0, (2, 1), read(2, 2, -1, 3)),
            ("fill", 4, (2, 2), 0, (2, 1), read(3, 0, 4, 1)),
            ("fill", 4, (2, 2), 4, (2, 1), read(1, 0, 0, 1)),
            ("run", "max", 5, (2, 2), 3, 0, (6, 1, 2), ("fold", "add", 2, fetched)),
            ("fill", 6, (2, 3, 2), 0, (6, 2, 1), ("pair", "add", ("num", -3), less)),
        ), ((6, (2, 3, 2)), (5, (2, 3, 2)), (3, (3, 2)), (6, (2, 3, 2)), (4, (2, 2, 2)), (0, (2, 3))))

    def test_what_is_handed_in_stays(self):
        program = copy.deepcopy(ALL_FORMS)
        for function in (live_steps, kept_steps, woven):
            before = function(program)
            self.assertEqual(program, ALL_FORMS)
            self.assertEqual(function(program), before)


def size(sides):
    many = 1
    for side in sides:
        many *= side
    return many


class ByChance(unittest.TestCase):
    def asked(self, program):
        model = Weaving(program)
        self.assertEqual(live_steps(program), sorted(model.live))
        self.assertEqual(kept_steps(program), [k for k in range(len(program[0])) if model.kept(k)])
        self.assertEqual(woven(program), model.weft())

    def test_all_fifteen_forms(self):
        self.asked(ALL_FORMS)
        for k in range(18):
            self.asked((ALL_FORMS[0], (k,)))

    def test_programs_by_chance(self):
        for program in random_programs(75, 600, 16):
            self.asked(program)
            self.asked((program[0], program[1][:1]))


if __name__ == "__main__":
    unittest.main()
