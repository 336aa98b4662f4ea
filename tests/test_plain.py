"""Points 0.3, 0.4, 0.6, 5.2 and the interface's part sideloom/plain.py."""

import copy
import unittest

import common
from model import model_tables, model_told
from programs import ALL_FORMS, ALL_FORMS_INPUTS, ALL_FORMS_SIDES, NO_INPUTS, inputs_for, random_programs
from sideloom.errors import BadStep, Unlike
from sideloom.plain import all_tables, answers, inputs_checked, step_table

# Tables of steps ahead: 0 to 4.
TABS = (((2, 3), (1, 2, 3, 4, 5, 6)), ((2,), (0, 1)), ((), (7,)), ((2, 3), (0, -1, 0, 5, 0, 0)), ((0, 2), ()))
MADE = (
    (("num", -5), ((), (-5,))),
    (("num", common.LEAST), ((), (common.LEAST,))),
    (("count", (2, 3), 1), ((2, 3), (0, 1, 2, 0, 1, 2))),
    (("count", (2, 3), 0), ((2, 3), (0, 0, 0, 1, 1, 1))),
    (("each", "neg", 0), ((2, 3), (-1, -2, -3, -4, -5, -6))),
    (("each", "not", 4), ((0, 2), ())),
    (("pair", "sub", 0, 2), ((2, 3), (-6, -5, -4, -3, -2, -1))),
    (("pair", "sub", 1, 0), ((2, 3), (-1, -2, -3, -3, -4, -5))),
    (("pair", "mul", 0, 0), ((2, 3), (1, 4, 9, 16, 25, 36))),
    (("pick", 3, 0, 2), ((2, 3), (7, 2, 7, 4, 7, 7))),
    (("pick", 1, 2, 0), ((2, 3), (1, 2, 3, 7, 7, 7))),
    (("turn", 0, (1, 0)), ((3, 2), (1, 4, 2, 5, 3, 6))),
    (("flip", 0, 0), ((2, 3), (4, 5, 6, 1, 2, 3))),
    (("flip", 0, 1), ((2, 3), (3, 2, 1, 6, 5, 4))),
    (("cut", 0, 1, 1, 2, 1), ((2, 2), (2, 3, 5, 6))),
    (("cut", 0, 1, 0, 2, 2), ((2, 2), (1, 3, 4, 6))),
    (("spread", 1, 0, 3), ((3, 2), (0, 1, 0, 1, 0, 1))),
    (("spread", 1, 1, 3), ((2, 3), (0, 0, 0, 1, 1, 1))),
    (("lay", 0, (3, 2)), ((3, 2), (1, 2, 3, 4, 5, 6))),
    (("join", 0, 3, 1), ((2, 6), (1, 2, 3, 0, -1, 0, 4, 5, 6, 5, 0, 0))),
    (("join", 3, 0, 0), ((4, 3), (0, -1, 0, 5, 0, 0, 1, 2, 3, 4, 5, 6))),
    (("fetch", 0, 1), ((2, 3), (1, 2, 3, 4, 5, 6))),
    (("fetch", 1, 0), ((2, 3), (1, 0, 1, 0, 1, 0))),
    (("fold", "add", 0, 0), ((3,), (5, 7, 9))),
    (("fold", "mul", 0, 1), ((2,), (6, 120))),
    (("fold", "min", 4, 0), ((2,), (common.GREATEST, common.GREATEST))),
    (("run", "add", 0, 1), ((2, 3), (1, 3, 6, 4, 9, 15))),
    (("run", "max", 0, 0), ((2, 3), (1, 2, 3, 4, 5, 6))),
    (("run", "max", 3, 1), ((2, 3), (0, 0, 0, 5, 5, 5))),
)
TWO_INS = ((("in", (2,)), ("num", 1), ("in", (3,)), ("each", "neg", 0)), (3, 2))
FITTING = (((2,), (1, 2)), ((3,), (4, 5, 6)))
NOT_FITTING = (
    (), FITTING[:1], FITTING + FITTING[:1], FITTING[::-1], FITTING + (((), (1,)),), (FITTING[1], FITTING[1]),
    (FITTING[0], FITTING[0]), (((1, 2), (1, 2)), FITTING[1]), (FITTING[0], ((3, 1), (4, 5, 6))),
    (((2, 1), (1, 2)), FITTING[1]), (((), (1,)), FITTING[1]), (FITTING[0], ((0,), ())),
    (FITTING[0], ((4,), (1, 2, 3, 4))),
)


class StepTable(unittest.TestCase):
    def test_each_form(self):
        self.assertEqual(len({step[0] for step, tab in MADE}), 14)
        for step, tab in MADE:
            self.assertEqual(step_table(step, TABS), tab, step)
            self.assertEqual(step_table(step, list(TABS)), tab, step)

    def test_kinds(self):
        for step, tab in MADE:
            made = step_table(step, TABS)
            self.assertEqual([type(made), type(made[0]), type(made[1])], [tuple] * 3)

    def test_only_the_tables_that_are_used_are_looked_at(self):
        self.assertEqual(step_table(("num", 1), []), ((), (1,)))
        self.assertEqual(step_table(("each", "neg", 0), [TABS[2], None]), ((), (-7,)))

    def test_what_is_handed_in_stays(self):
        tabs = list(TABS)
        for step, tab in MADE:
            step_table(step, tabs)
        self.assertEqual(tabs, list(TABS))


class Plain(common.Refusing):
    def refused_by_all(self, kind, program, inputs):
        for function in (inputs_checked, all_tables, answers):
            self.refused(kind, function, program, inputs)

    def test_all_fifteen_forms(self):
        tabs = all_tables(ALL_FORMS, ALL_FORMS_INPUTS)
        self.assertEqual(tuple([tab[0] for tab in tabs]), ALL_FORMS_SIDES)
        self.assertEqual(tabs[:2], ALL_FORMS_INPUTS)
        self.assertEqual(tabs[6], ((2, 3), (-3, -20, -30, -3, 100, 120)))
        self.assertEqual(tabs[8], ((3, 2), (-30, 120, -20, 100, -3, -3)))
        self.assertEqual(tabs[11], ((4, 2), (-30, 120, -3, -3, 10, -20, 10, -20)))
        self.assertEqual(tabs[15], ((2, 3, 2), (20, -40, 20, 117, 20, 117) * 2))
        self.assertEqual(tabs[16], ((2, 3, 2), (0,) * 12))
        self.assertEqual(answers(ALL_FORMS, ALL_FORMS_INPUTS), tuple([tabs[out] for out in ALL_FORMS[1]]))
        self.assertEqual(inputs_checked(ALL_FORMS, ALL_FORMS_INPUTS), ALL_FORMS_SIDES)

    def test_kinds(self):
        for function in (inputs_checked, all_tables, answers):
            self.assertIs(type(function(ALL_FORMS, ALL_FORMS_INPUTS)), tuple)
        self.assertIs(type(inputs_checked(TWO_INS, FITTING)[0]), tuple)

    def test_no_inputs(self):
        tabs = (((3,), (0, 1, 2)), ((), (2,)), ((3,), (0, 2, 4)), ((), (6,)))
        self.assertEqual(all_tables(NO_INPUTS, ()), tabs)
        self.assertEqual(answers(NO_INPUTS, ()), tabs[2:])
        self.assertEqual(inputs_checked(NO_INPUTS, ()), ((3,), (), (3,), ()))
        self.refused_by_all(Unlike, NO_INPUTS, (((), (1,)),))

    def test_outs(self):
        program = ((("in", (2,)), ("each", "neg", 0), ("num", 9)), (1, 0, 1, 1))
        self.assertEqual(answers(program, (((2,), (3, 4)),)),
                         (((2,), (-3, -4)), ((2,), (3, 4)), ((2,), (-3, -4)), ((2,), (-3, -4))))
        self.assertEqual(answers((program[0], (2,)), (((2,), (3, 4)),)), (((), (9,)),))

    def test_a_step_used_twice(self):
        program = ((("in", ()), ("pair", "add", 0, 0), ("pair", "mul", 1, 0), ("pick", 2, 2, 1)), (3,))
        self.assertEqual(all_tables(program, (((), (5,)),)), (((), (5,)), ((), (10,)), ((), (50,)), ((), (50,))))

    def test_inputs_in_the_order_of_the_in_steps(self):
        program = ((("in", ()), ("in", ()), ("pair", "sub", 0, 1), ("in", ()), ("pair", "quo", 2, 3)), (4,))
        self.assertEqual(answers(program, (((), (20,)), ((), (6,)), ((), (5,)))), (((), (2,)),))

    def test_inputs_that_fit(self):
        self.assertEqual(answers(TWO_INS, FITTING), (((2,), (-1, -2)), ((3,), (4, 5, 6))))
        self.assertEqual(inputs_checked(TWO_INS, FITTING), ((2,), (), (3,), (2,)))

    def test_inputs_that_do_not_fit(self):
        for inputs in NOT_FITTING:
            self.refused_by_all(Unlike, TWO_INS, inputs)

    def test_an_input_that_nothing_uses(self):
        program = ((("in", (2,)), ("num", 1)), (1,))
        self.assertEqual(answers(program, (((2,), (1, 2)),)), (((), (1,)),))
        self.refused_by_all(Unlike, program, ())
        self.refused_by_all(Unlike, program, (((3,), (1, 2, 3)),))

    def test_a_program_that_is_not_good_goes_ahead_of_its_inputs(self):
        for program, fault in (
                (((("in", (2,)), ("flip", 0, 1)), (1,)), (1, "side")),
                (((("in", (2,)), ("each", "neg", 1)), (1,)), (1, "name")),
                (((("in", (513,)),), (0,)), (0, "large")),
                (((("in", (2,)),), ()), (1, "out")),
                (((("in", (2,)),) * 41, (0,)), (40, "many"))):
            for inputs in ((), (((2,), (1, 2)),), (((3,), (1, 2, 3)),), FITTING):
                for function in (inputs_checked, all_tables, answers):
                    with self.assertRaises(BadStep) as taken:
                        function(program, inputs)
                    self.assertEqual((taken.exception.at, taken.exception.why), fault)

    def test_a_side_of_nought(self):
        program = ((("in", (2, 0)), ("fold", "mul", 0, 1), ("run", "add", 0, 1), ("each", "neg", 0)), (1, 2, 3))
        self.assertEqual(answers(program, (((2, 0), ()),)), (((2,), (1, 1)), ((2, 0), ()), ((2, 0), ())))

    def test_numbers_are_wrapped(self):
        program = ((("in", ()), ("num", common.GREATEST), ("pair", "add", 0, 1), ("each", "abs", 2)), (2, 3))
        self.assertEqual(answers(program, (((), (1,)),)), (((), (common.LEAST,)),) * 2)

    def test_forty_steps(self):
        steps = (("in", (2,)),) + tuple([("pair", "add", k, 0) for k in range(39)])
        self.assertEqual(answers((steps, (39,)), (((2,), (1, -2)),)), (((2,), (40, -80)),))

    def test_programs_by_chance(self):
        for program in random_programs(54, 300):
            inputs = inputs_for(program)
            tabs = model_tables(program, inputs)
            self.assertEqual(all_tables(program, inputs), tabs)
            self.assertEqual(answers(program, inputs), tuple([tabs[out] for out in program[1]]))
            self.assertEqual(inputs_checked(program, inputs), tuple(model_told(program)[0]))

    def test_what_is_handed_in_stays(self):
        program = copy.deepcopy(ALL_FORMS)
        inputs = copy.deepcopy(ALL_FORMS_INPUTS)
        for function in (inputs_checked, all_tables, answers):
            before = function(program, inputs)
            self.assertEqual((program, inputs), (ALL_FORMS, ALL_FORMS_INPUTS))
            self.assertEqual(function(program, inputs), before)


if __name__ == "__main__":
    unittest.main()
