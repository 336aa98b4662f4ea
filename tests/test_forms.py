"""Points 0.3, 4.1 and the interface's part sideloom/forms.py."""

import unittest

from sideloom.forms import args_of, with_args

# Each of the fifteen forms with its arguments, with other ones, and the step that these make.
STEPS = (
    (("in", (2, 3)), (), (), ("in", (2, 3))),
    (("in", ()), (), (), ("in", ())),
    (("num", 5), (), (), ("num", 5)),
    (("num", -2**63), (), (), ("num", -2**63)),
    (("count", (2, 3), 1), (), (), ("count", (2, 3), 1)),
    (("each", "neg", 4), (4,), (9,), ("each", "neg", 9)),
    (("pair", "add", 4, 6), (4, 6), (9, 8), ("pair", "add", 9, 8)),
    (("pick", 4, 6, 5), (4, 6, 5), (9, 8, 7), ("pick", 9, 8, 7)),
    (("turn", 4, (1, 0)), (4,), (9,), ("turn", 9, (1, 0))),
    (("turn", 4, ()), (4,), (9,), ("turn", 9, ())),
    (("flip", 4, 1), (4,), (9,), ("flip", 9, 1)),
    (("cut", 4, 1, 2, 3, 5), (4,), (9,), ("cut", 9, 1, 2, 3, 5)),
    (("spread", 4, 1, 3), (4,), (9,), ("spread", 9, 1, 3)),
    (("lay", 4, (6, 2)), (4,), (9,), ("lay", 9, (6, 2))),
    (("join", 4, 6, 1), (4, 6), (9, 8), ("join", 9, 8, 1)),
    (("fetch", 4, 6), (4, 6), (9, 8), ("fetch", 9, 8)),
    (("fold", "add", 4, 1), (4,), (9,), ("fold", "add", 9, 1)),
    (("run", "mul", 4, 1), (4,), (9,), ("run", "mul", 9, 1)),
)
# The same number stands twice: as two arguments, or as an argument and as something else.
TWICE = (
    (("num", 3), (), (), ("num", 3)),
    (("count", (3, 3), 1), (), (), ("count", (3, 3), 1)),
    (("pair", "add", 3, 3), (3, 3), (3, 7), ("pair", "add", 3, 7)),
    (("pair", "add", 3, 3), (3, 3), (7, 3), ("pair", "add", 7, 3)),
    (("pair", "sub", 3, 4), (3, 4), (4, 4), ("pair", "sub", 4, 4)),
    (("pair", "sub", 3, 4), (3, 4), (4, 3), ("pair", "sub", 4, 3)),
    (("pick", 3, 3, 3), (3, 3, 3), (0, 1, 2), ("pick", 0, 1, 2)),
    (("pick", 3, 4, 3), (3, 4, 3), (1, 1, 2), ("pick", 1, 1, 2)),
    (("pick", 3, 4, 5), (3, 4, 5), (4, 5, 3), ("pick", 4, 5, 3)),
    (("flip", 2, 2), (2,), (0,), ("flip", 0, 2)),
    (("cut", 1, 1, 1, 1, 1), (1,), (0,), ("cut", 0, 1, 1, 1, 1)),
    (("spread", 2, 2, 2), (2,), (5,), ("spread", 5, 2, 2)),
    (("join", 0, 0, 0), (0, 0), (1, 2), ("join", 1, 2, 0)),
    (("join", 1, 0, 1), (1, 0), (0, 1), ("join", 0, 1, 1)),
    (("fetch", 6, 6), (6, 6), (6, 5), ("fetch", 6, 5)),
    (("fold", "max", 1, 1), (1,), (0,), ("fold", "max", 0, 1)),
    (("run", "min", 0, 0), (0,), (3,), ("run", "min", 3, 0)),
    (("turn", 1, (1, 0)), (1,), (0,), ("turn", 0, (1, 0))),
    (("lay", 6, (6,)), (6,), (1,), ("lay", 1, (6,))),
)


class Forms(unittest.TestCase):
    def test_all_fifteen_are_here(self):
        self.assertEqual(len(set([step[0] for step, args, others, answer in STEPS])), 15)

    def test_arguments(self):
        for step, args, others, answer in STEPS + TWICE:
            self.assertEqual(args_of(step), args)
            self.assertEqual(args_of(answer), others)
            self.assertIs(type(args_of(step)), tuple)

    def test_other_arguments(self):
        for step, args, others, answer in STEPS + TWICE:
            self.assertEqual(with_args(step, others), answer)
            self.assertIs(type(with_args(step, others)), tuple)

    def test_the_same_arguments(self):
        for step, args, others, answer in STEPS + TWICE:
            self.assertEqual(with_args(step, args), step)
            self.assertEqual(with_args(answer, args), step)

    def test_what_else_a_step_holds_stays_as_it_is(self):
        for step, args, others, answer in STEPS + TWICE:
            before = tuple(step)
            with_args(step, others)
            self.assertEqual(step, before)

    def test_names_of_functions_and_forms_are_not_looked_at(self):
        # A function's word may be like a form's.
        self.assertEqual(args_of(("each", "pick", 4)), (4,))
        self.assertEqual(args_of(("pair", "in", 4, 5)), (4, 5))
        self.assertEqual(with_args(("fold", "num", 4, 0), (1,)), ("fold", "num", 1, 0))


if __name__ == "__main__":
    unittest.main()
