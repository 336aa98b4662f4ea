"""Points 6.4 to 6.6 and the interface's part sideloom/tidy.py."""

import copy
import unittest

from model import model_thinned
from programs import ALL_FORMS, ALL_FORMS_INPUTS, NO_INPUTS, inputs_for, random_programs
from sideloom.checking import checked
from sideloom.errors import BadStep
from sideloom.forms import args_of, with_args
from sideloom.plain import all_tables, answers
from sideloom.tidy import thinned

# Steps ahead: 0 to 5, all of which stay.
MAKERS = (("in", (2, 3)), ("in", (1, 3)), ("in", ()), ("in", (0, 3)), ("in", (2, 0)), ("in", (0, 3)))
# Steps that are still, and the one that stands for each.
STILL = (
    (("turn", 0, (0, 1)), 0),
    (("turn", 2, ()), 2),
    (("turn", 3, (0, 1)), 3),
    (("flip", 1, 0), 1),
    (("flip", 3, 0), 3),
    (("flip", 4, 1), 4),
    (("cut", 0, 0, 0, 2, 1), 0),
    (("cut", 0, 1, 0, 3, 1), 0),
    (("cut", 1, 0, 0, 1, 7), 1),
    (("cut", 3, 0, 5, 0, 9), 3),
    (("lay", 0, (2, 3)), 0),
    (("lay", 2, ()), 2),
    (("lay", 3, (0, 3)), 3),
    (("join", 3, 0, 0), 0),
    (("join", 0, 3, 0), 0),
    (("join", 3, 1, 0), 1),
    (("join", 4, 0, 1), 0),
    (("join", 0, 4, 1), 0),
    (("join", 3, 5, 0), 5),
    (("join", 5, 3, 0), 3),
    (("join", 3, 3, 0), 3),
)
# Steps that are nearly still.
NOT_STILL = (
    ("turn", 0, (1, 0)),
    ("flip", 0, 0),
    ("flip", 0, 1),
    ("flip", 1, 1),
    ("flip", 3, 1),
    ("cut", 0, 0, 0, 1, 1),
    ("cut", 0, 1, 1, 2, 1),
    ("cut", 0, 1, 0, 0, 1),
    ("cut", 1, 0, 0, 0, 1),
    ("lay", 0, (3, 2)),
    ("lay", 0, (2, 3, 1)),
    ("lay", 2, (1,)),
    ("lay", 3, (3, 0)),
    ("join", 0, 1, 0),
    ("join", 0, 0, 0),
    ("join", 3, 5, 1),
    ("join", 4, 4, 0),
    ("spread", 2, 0, 1),
    ("spread", 2, 0, 0),
    ("each", "abs", 0),
    ("pair", "add", 0, 0),
    ("pick", 0, 0, 0),
    ("fold", "add", 1, 0),
    ("run", "add", 1, 0),
    ("run", "add", 3, 0),
    ("fetch", 1, 2),
    ("num", 0),
    ("count", (2,), 0),
)


class Thinned(unittest.TestCase):
    def told(self, steps, outs, new_steps, new_outs, numbers):
        self.assertEqual(thinned((steps, outs)), ((new_steps, new_outs), numbers))

    def test_each_way_to_be_still(self):
        ahead = (0, 1, 2, 3, 4, 5)
        for step, number in STILL:
            self.told(MAKERS + (step,), (6,), MAKERS, (number,), ahead + (number,))
            # What uses it uses the one that stands for it.
            use = ("each", "neg", 6)
            self.told(MAKERS + (step, use), (7, 6), MAKERS + (("each", "neg", number),), (6, number),
                      ahead + (number, 6))

    def test_what_is_not_still(self):
        numbers = (0, 1, 2, 3, 4, 5, 6)
        for step in NOT_STILL:
            self.told(MAKERS + (step,), (6,), MAKERS + (step,), (6,), numbers)

    def test_a_still_step_that_nothing_uses_is_told_what_stands_for_it(self):
        self.told((("in", (1,)), ("flip", 0, 0), ("num", 1)), (2,), (("in", (1,)), ("num", 1)), (1,), (0, 0, 1))
        self.told((("in", (2,)), ("each", "neg", 0), ("lay", 1, (2,)), ("num", 1)), (3,),
                  (("in", (2,)), ("num", 1)), (1,), (0, None, None, 1))

    def test_still_steps_in_a_row(self):
        steps = (("in", (1, 2)), ("turn", 0, (0, 1)), ("flip", 1, 0), ("cut", 2, 1, 0, 2, 1), ("lay", 3, (1, 2)))
        self.told(steps, (4,), (("in", (1, 2)),), (0,), (0, 0, 0, 0, 0))

    def test_a_step_that_is_still_through_its_argument(self):
        # The inner side of length one comes out of a cut, along which the flip is still.
        steps = (("in", (3, 2)), ("cut", 0, 0, 1, 1, 1), ("flip", 1, 0), ("flip", 2, 1))
        self.told(steps, (3,), (("in", (3, 2)), ("cut", 0, 0, 1, 1, 1), ("flip", 1, 1)), (2,), (0, 1, 1, 2))

    def test_two_flips_along_the_same_side(self):
        steps = (("in", (2, 3)), ("flip", 0, 1), ("flip", 1, 1))
        self.told(steps, (2,), (("in", (2, 3)),), (0,), (0, None, 0))
        self.told(steps, (2, 1), (("in", (2, 3)), ("flip", 0, 1)), (0, 1), (0, 1, 0))

    def test_two_flips_along_two_sides(self):
        steps = (("in", (2, 3)), ("flip", 0, 1), ("flip", 1, 0))
        self.told(steps, (2,), steps, (2,), (0, 1, 2))
        # Flips along the other side between them are not looked through.
        steps = steps + (("flip", 2, 1),)
        self.told(steps, (3,), steps, (3,), (0, 1, 2, 3))
        steps = steps + (("flip", 3, 1),)
        self.told(steps, (4,), steps[:3], (2,), (0, 1, 2, None, 2))

    def test_three_flips(self):
        steps = (("in", (2,)), ("flip", 0, 0), ("flip", 1, 0), ("flip", 2, 0))
        self.told(steps, (3,), (("in", (2,)), ("flip", 0, 0)), (1,), (0, 1, 0, 1))
        steps = steps + (("flip", 3, 0),)
        self.told(steps, (4,), (("in", (2,)),), (0,), (0, None, 0, None, 0))

    def test_flips_with_a_still_step_between(self):
        steps = (("in", (2, 3)), ("flip", 0, 1), ("lay", 1, (2, 3)), ("flip", 2, 1))
        self.told(steps, (3,), (("in", (2, 3)),), (0,), (0, None, None, 0))

    def test_a_flip_of_a_step_that_is_no_flip(self):
        steps = (("in", (2, 3)), ("run", "add", 0, 1), ("flip", 1, 1), ("cut", 2, 1, 0, 2, 1), ("flip", 3, 1))
        self.told(steps, (4,), steps, (4,), (0, 1, 2, 3, 4))

    def test_a_flip_goes_ahead_of_an_earlier_one_alike(self):
        # Step 3 has the form of step 2, but both are undone by the flip in step 1.
        steps = (("in", (2,)), ("flip", 0, 0), ("flip", 1, 0), ("flip", 1, 0), ("pair", "add", 2, 3))
        self.told(steps, (4,), (("in", (2,)), ("pair", "add", 0, 0)), (1,), (0, None, 0, 0, 1))

    def test_steps_that_are_alike(self):
        steps = (("in", (2,)), ("each", "neg", 0), ("each", "neg", 0), ("each", "abs", 0), ("pair", "add", 1, 2))
        self.told(steps, (4, 3), (("in", (2,)), ("each", "neg", 0), ("each", "abs", 0), ("pair", "add", 1, 1)), (3, 2),
                  (0, 1, 1, 2, 3))
        steps = (("num", 5), ("num", 5), ("num", 6), ("count", (2,), 0), ("count", (2,), 0))
        self.told(steps, (0, 1, 2, 3, 4), (("num", 5), ("num", 6), ("count", (2,), 0)), (0, 0, 1, 2, 2),
                  (0, 0, 1, 2, 2))

    def test_steps_that_become_alike(self):
        steps = (("in", (2,)), ("lay", 0, (2,)), ("each", "neg", 0), ("each", "neg", 1), ("each", "abs", 2),
                 ("each", "abs", 3))
        self.told(steps, (5, 4), (("in", (2,)), ("each", "neg", 0), ("each", "abs", 1)), (2, 2), (0, 0, 1, 1, 2, 2))

    def test_the_first_of_three(self):
        steps = (("num", 1), ("num", 2), ("num", 2), ("num", 2), ("pair", "add", 3, 2))
        self.told(steps, (4,), (("num", 2), ("pair", "add", 0, 0)), (1,), (None, 0, 0, 0, 1))

    def test_arguments_in_another_order(self):
        steps = (("in", ()), ("in", ()), ("pair", "add", 0, 1), ("pair", "add", 1, 0))
        self.told(steps, (2, 3), steps, (2, 3), (0, 1, 2, 3))

    def test_in_steps(self):
        steps = (("in", (2,)), ("in", (2,)), ("in", (3,)), ("each", "neg", 0), ("each", "neg", 1))
        self.told(steps, (3, 4), steps, (3, 4), (0, 1, 2, 3, 4))
        self.told(steps, (4,), steps[:3] + (("each", "neg", 1),), (3,), (0, 1, 2, None, 3))
        self.told(steps, (2,), steps[:3], (2,), (0, 1, 2, None, None))

    def test_a_join_with_two_empty_parts(self):
        # The second stands for it, as the first is of length nought.
        steps = (("in", (0,)), ("in", (0,)), ("join", 0, 1, 0), ("each", "neg", 2))
        self.told(steps, (3, 2), steps[:2] + (("each", "neg", 1),), (2, 1), (0, 1, 1, 2))

    def test_outs_that_fall_together(self):
        steps = (("in", (1,)), ("flip", 0, 0), ("num", 1), ("num", 1))
        self.told(steps, (3, 1, 2, 0, 3, 0), (("in", (1,)), ("num", 1)), (1, 0, 1, 0, 1, 0), (0, 0, 1, 1))

    def test_steps_that_nothing_uses(self):
        steps = (("num", 1), ("num", 2), ("each", "neg", 0), ("each", "neg", 1), ("pair", "add", 2, 2))
        self.told(steps, (3,), (("num", 2), ("each", "neg", 0)), (1,), (None, 0, None, 1, None))

    def test_a_step_used_only_by_one_that_another_stands_for(self):
        steps = (("in", (2,)), ("in", (0,)), ("each", "neg", 1), ("join", 2, 0, 0))
        self.told(steps, (3,), steps[:2], (0,), (0, 1, None, 0))

    def test_what_else_a_step_holds_stays(self):
        steps = (("num", 1), ("in", (2, 2)), ("cut", 1, 0, 1, 1, 1), ("spread", 2, 1, 1), ("turn", 3, (2, 1, 0)),
                 ("fold", "max", 4, 0), ("fetch", 5, 1), ("lay", 6, (4,)), ("pick", 7, 7, 7))
        lower = (("in", (2, 2)), ("cut", 0, 0, 1, 1, 1), ("spread", 1, 1, 1), ("turn", 2, (2, 1, 0)),
                 ("fold", "max", 3, 0), ("fetch", 4, 0), ("lay", 5, (4,)), ("pick", 6, 6, 6))
        self.told(steps, (8,), lower, (7,), (None, 0, 1, 2, 3, 4, 5, 6, 7))

    def test_forms_are_the_same_only_where_all_of_them_is(self):
        pairs = (
            (("each", "neg", 0), ("each", "abs", 0)), (("flip", 0, 0), ("flip", 0, 1)),
            (("cut", 0, 0, 0, 1, 1), ("cut", 0, 0, 0, 1, 2)), (("fold", "add", 0, 0), ("run", "add", 0, 0)),
            (("spread", 0, 0, 2), ("spread", 0, 1, 2)), (("lay", 0, (6,)), ("lay", 0, (3, 2))),
        )
        for one, other in pairs:
            steps = (("in", (2, 3)), one, other)
            self.told(steps, (1, 2), steps, (1, 2), (0, 1, 2))

    def test_programs_that_are_not_good(self):
        for program, fault in ((((("in", (2,)), ("flip", 0, 1)), (1,)), (1, "side")), (((("num", 1),), ()), (1, "out")),
                               (((("each", "neg", 0),), (0,)), (0, "name"))):
            with self.assertRaises(BadStep) as taken:
                thinned(program)
            self.assertEqual((taken.exception.at, taken.exception.why), fault)

    def test_all_fifteen_forms(self):
        program, numbers = thinned(ALL_FORMS)
        self.assertEqual(program, ALL_FORMS)
        self.assertEqual(numbers, tuple(range(18)))
        self.assertEqual(thinned(NO_INPUTS), (NO_INPUTS, (0, 1, 2, 3)))

    def test_what_is_handed_in_stays(self):
        program = copy.deepcopy(ALL_FORMS)
        thinned(program)
        self.assertEqual(program, ALL_FORMS)


class Promised(unittest.TestCase):
    """Point 6.6, and the same told a second time by other means."""

    def asked(self, program, inputs):
        thin, numbers = thinned(program)
        self.assertEqual((thin, numbers), model_thinned(program))
        kinds = [type(part) for part in (thinned(program), thin, thin[0], thin[1], numbers)]
        self.assertEqual(kinds, [tuple] * 5)
        self.assertEqual(answers(thin, inputs), answers(program, inputs))
        self.assertEqual(*[[step for step in steps if step[0] == "in"] for steps in (thin[0], program[0])])
        old = all_tables(program, inputs)
        new = all_tables(thin, inputs)
        for k, number in enumerate(numbers):
            if number is not None:
                self.assertEqual(new[number], old[k])
        others = [step for step in thin[0] if step[0] != "in"]
        self.assertEqual(len(others), len(set(others)))
        used = set(thin[1]) | {number for step in thin[0] for number in args_of(step)}
        for k, step in enumerate(thin[0]):
            self.assertTrue(step[0] == "in" or k in used)
        self.assertEqual(len(checked(thin)), len(thin[0]))
        self.assertEqual(thinned(thin), (thin, tuple(range(len(thin[0])))))

    def test_all_fifteen_forms(self):
        self.asked(ALL_FORMS, ALL_FORMS_INPUTS)

    def test_programs_by_chance(self):
        fewer = 0
        for program in random_programs(64, 400, 25):
            self.asked(program, inputs_for(program))
            fewer += thinned(program)[0] != program
        self.assertGreater(fewer, 200)

    def test_each_program_twice_over(self):
        """The same steps once more, with the in steps' tables taken from the first ones: all fall together."""
        for program in random_programs(65, 100, 15):
            many = len(program[0])
            again = [with_args(step, tuple([number + many for number in args_of(step)])) for step in program[0]]
            again = [("lay", k, step[1]) if step[0] == "in" else step for k, step in enumerate(again)]
            outs = program[1][:4] + tuple([out + many for out in program[1][:4]])
            double = (program[0] + tuple(again), outs)
            self.asked(double, inputs_for(program))
            single, numbers = thinned((program[0], program[1][:4]))
            self.assertEqual(thinned(double), ((single[0], single[1] * 2), numbers * 2))


if __name__ == "__main__":
    unittest.main()
