"""Points 0.5, 5.1, 6.1 to 6.3 and the interface's part sideloom/needs.py."""

import copy
import unittest

import common
from model import model_looked, model_looks_all
from programs import ALL_FORMS, ALL_FORMS_INPUTS, inputs_for, random_programs
from sideloom.checking import checked
from sideloom.errors import BadStep, NoPlace
from sideloom.needs import looked, looks, looks_in, needed
from sideloom.plain import answers

# Steps ahead: 0 to 6.
MAKERS = (("in", (2, 3)), ("in", (2,)), ("num", 5), ("in", (3, 2)), ("in", (0, 2)), ("in", (2, 3, 2)), ("in", (2, 0)))
# Steps, and what each of their cells in order looks at.
LOOKS = (
    (("in", (3,)), ([], [], [])),
    (("in", ()), ([],)),
    (("num", 1), ([],)),
    (("count", (2, 2), 1), ([], [], [], [])),
    (("each", "neg", 1), ([(1, 0)], [(1, 1)])),
    (("each", "neg", 2), ([(2, 0)],)),
    (("each", "neg", 4), ()),
    (("pair", "add", 0, 1), ([(0, 0), (1, 0)], [(0, 1), (1, 0)], [(0, 2), (1, 0)],
                             [(0, 3), (1, 1)], [(0, 4), (1, 1)], [(0, 5), (1, 1)])),
    (("pair", "add", 1, 0), ([(0, 0), (1, 0)], [(0, 1), (1, 0)], [(0, 2), (1, 0)],
                             [(0, 3), (1, 1)], [(0, 4), (1, 1)], [(0, 5), (1, 1)])),
    (("pair", "add", 2, 1), ([(1, 0), (2, 0)], [(1, 1), (2, 0)])),
    (("pair", "mul", 1, 1), ([(1, 0)], [(1, 1)])),
    (("pair", "add", 2, 4), ()),
    (("pick", 1, 2, 0), ([(0, 0), (1, 0), (2, 0)], [(0, 1), (1, 0), (2, 0)], [(0, 2), (1, 0), (2, 0)],
                         [(0, 3), (1, 1), (2, 0)], [(0, 4), (1, 1), (2, 0)], [(0, 5), (1, 1), (2, 0)])),
    (("pick", 1, 1, 2), ([(1, 0), (2, 0)], [(1, 1), (2, 0)])),
    (("pick", 2, 1, 2), ([(1, 0), (2, 0)], [(1, 1), (2, 0)])),
    (("pick", 1, 1, 1), ([(1, 0)], [(1, 1)])),
    (("turn", 0, (1, 0)), ([(0, 0)], [(0, 3)], [(0, 1)], [(0, 4)], [(0, 2)], [(0, 5)])),
    (("turn", 5, (2, 0, 1)), ([(5, 0)], [(5, 2)], [(5, 4)], [(5, 6)], [(5, 8)], [(5, 10)],
                              [(5, 1)], [(5, 3)], [(5, 5)], [(5, 7)], [(5, 9)], [(5, 11)])),
    (("turn", 4, (1, 0)), ()),
    (("turn", 2, ()), ([(2, 0)],)),
    (("flip", 0, 0), ([(0, 3)], [(0, 4)], [(0, 5)], [(0, 0)], [(0, 1)], [(0, 2)])),
    (("flip", 0, 1), ([(0, 2)], [(0, 1)], [(0, 0)], [(0, 5)], [(0, 4)], [(0, 3)])),
    (("flip", 4, 0), ()),
    (("cut", 0, 1, 1, 2, 1), ([(0, 1)], [(0, 2)], [(0, 4)], [(0, 5)])),
    (("cut", 0, 1, 0, 2, 2), ([(0, 0)], [(0, 2)], [(0, 3)], [(0, 5)])),
    (("cut", 0, 0, 1, 1, 9), ([(0, 3)], [(0, 4)], [(0, 5)])),
    (("cut", 0, 0, 1, 0, 9), ()),
    (("spread", 1, 0, 2), ([(1, 0)], [(1, 1)], [(1, 0)], [(1, 1)])),
    (("spread", 1, 1, 2), ([(1, 0)], [(1, 0)], [(1, 1)], [(1, 1)])),
    (("spread", 1, 1, 0), ()),
    (("spread", 2, 0, 2), ([(2, 0)], [(2, 0)])),
    (("lay", 0, (3, 2)), ([(0, 0)], [(0, 1)], [(0, 2)], [(0, 3)], [(0, 4)], [(0, 5)])),
    (("lay", 4, (7, 0)), ()),
    (("join", 0, 0, 1), ([(0, 0)], [(0, 1)], [(0, 2)], [(0, 0)], [(0, 1)], [(0, 2)],
                         [(0, 3)], [(0, 4)], [(0, 5)], [(0, 3)], [(0, 4)], [(0, 5)])),
    (("join", 4, 3, 0), ([(3, 0)], [(3, 1)], [(3, 2)], [(3, 3)], [(3, 4)], [(3, 5)])),
    (("join", 3, 4, 0), ([(3, 0)], [(3, 1)], [(3, 2)], [(3, 3)], [(3, 4)], [(3, 5)])),
    (("join", 6, 0, 1), ([(0, 0)], [(0, 1)], [(0, 2)], [(0, 3)], [(0, 4)], [(0, 5)])),
    (("fetch", 0, 1), ([(0, 0), (0, 3), (1, 0)], [(0, 1), (0, 4), (1, 0)], [(0, 2), (0, 5), (1, 0)],
                       [(0, 0), (0, 3), (1, 1)], [(0, 1), (0, 4), (1, 1)], [(0, 2), (0, 5), (1, 1)])),
    (("fetch", 1, 2), ([(1, 0), (1, 1), (2, 0)],)),
    (("fetch", 1, 1), ([(1, 0), (1, 1)], [(1, 0), (1, 1)])),
    (("fetch", 3, 1), ([(1, 0), (3, 0), (3, 2), (3, 4)], [(1, 0), (3, 1), (3, 3), (3, 5)],
                       [(1, 1), (3, 0), (3, 2), (3, 4)], [(1, 1), (3, 1), (3, 3), (3, 5)])),
    (("fetch", 3, 4), ()),
    (("fold", "add", 0, 0), ([(0, 0), (0, 3)], [(0, 1), (0, 4)], [(0, 2), (0, 5)])),
    (("fold", "add", 0, 1), ([(0, 0), (0, 1), (0, 2)], [(0, 3), (0, 4), (0, 5)])),
    (("fold", "add", 5, 1), ([(5, 0), (5, 2), (5, 4)], [(5, 1), (5, 3), (5, 5)],
                             [(5, 6), (5, 8), (5, 10)], [(5, 7), (5, 9), (5, 11)])),
    (("fold", "add", 1, 0), ([(1, 0), (1, 1)],)),
    (("fold", "add", 4, 0), ([], [])),
    (("fold", "add", 4, 1), ()),
    (("run", "add", 0, 0), ([(0, 0)], [(0, 1)], [(0, 2)], [(0, 0), (0, 3)], [(0, 1), (0, 4)], [(0, 2), (0, 5)])),
    (("run", "add", 0, 1), ([(0, 0)], [(0, 0), (0, 1)], [(0, 0), (0, 1), (0, 2)],
                            [(0, 3)], [(0, 3), (0, 4)], [(0, 3), (0, 4), (0, 5)])),
    (("run", "add", 4, 0), ()),
    (("run", "add", 6, 1), ()),
)
BAD = (
    (((("in", (2,)), ("flip", 0, 1)), (1,)), (1, "side")),
    (((("in", (2,)), ("each", "neg", 1)), (1,)), (1, "name")),
    (((("in", (2,)),), ()), (1, "out")),
    (((("in", (2,)),), (1,)), (1, "out")),
    (((("num", 1),) * 41, (0,)), (40, "many")),
    (((), (0,)), (0, "out")),
)
# An in step that is needed in part, one that is not, and steps that are not looked at.
SEVERAL = (
    (
        ("in", (3,)),                # 0
        ("in", (2,)),                # 1
        ("num", 4),                  # 2
        ("run", "add", 0, 0),        # 3: (3,)
        ("flip", 3, 0),              # 4: (3,)
        ("each", "neg", 1),          # 5: (2,)
        ("pair", "mul", 4, 2),       # 6: (3,)
        ("in", (2,)),                # 7
        ("pair", "add", 5, 7),       # 8: (2,)
    ),
    (6, 8, 6),
)


class Looks(common.Refusing):
    def test_all_fifteen_are_here(self):
        self.assertEqual(len({step[0] for step, told in LOOKS}), 15)

    def test_each_form_at_every_cell(self):
        for step, told in LOOKS:
            program = (MAKERS + (step,), (7,))
            for place, pairs in enumerate(told):
                self.assertEqual(looks(program, 7, place), pairs, (step, place))
                self.assertEqual(looks_in(step, checked(program), place), pairs, (step, place))

    def test_no_such_cell(self):
        for step, told in LOOKS:
            program = (MAKERS + (step,), (7,))
            for place in (-common.GREAT, -2, -1, len(told), len(told) + 1, common.GREAT):
                self.refused(NoPlace, looks, program, 7, place)
                self.refused(NoPlace, looks_in, step, checked(program), place)
                self.refused(NoPlace, looked, program, 0, place)
                self.refused(NoPlace, needed, program, 0, place)

    def test_no_such_step(self):
        for k in (-common.GREAT, -10, -9, -2, -1, 9, 10, common.GREAT):
            for place in (0, 1, -1, 99):
                self.refused(NoPlace, looks, SEVERAL, k, place)

    def test_steps_within_a_program(self):
        self.assertEqual(looks(SEVERAL, 3, 2), [(0, 0), (0, 1), (0, 2)])
        self.assertEqual(looks(SEVERAL, 4, 0), [(3, 2)])
        self.assertEqual(looks(SEVERAL, 8, 1), [(5, 1), (7, 1)])
        self.assertEqual(looks(SEVERAL, 0, 1), [])

    def test_kinds(self):
        for step, told in LOOKS:
            program = (MAKERS + (step,), (7,))
            for place in range(len(told)):
                for pairs in (looks(program, 7, place), looks_in(step, checked(program), place)):
                    self.assertIs(type(pairs), list)
                    self.assertEqual([type(pair) for pair in pairs], [tuple] * len(pairs))

    def test_lists_are_the_askers_own(self):
        program = (MAKERS + (("num", 1),), (7,))
        looks(program, 7, 0).append(9)
        self.assertEqual(looks(program, 7, 0), [])

    def test_looks_do_not_depend_on_numbers(self):
        for number in (0, 1, -5):
            program = ((("in", (3,)), ("num", number), ("fetch", 0, 1), ("pick", 1, 2, 1)), (3,))
            self.assertEqual(looks(program, 2, 0), [(0, 0), (0, 1), (0, 2), (1, 0)])
            self.assertEqual(looks(program, 3, 0), [(1, 0), (2, 0)])

    def test_programs_by_chance(self):
        for program in random_programs(61, 150, 12):
            sides = checked(program)
            for k, told in enumerate(model_looks_all(program)):
                for place, pairs in enumerate(told):
                    self.assertEqual(looks_in(program[0][k], sides, place), pairs)
                if told:
                    self.assertEqual(looks(program, k, len(told) - 1), told[-1])


class Looked(common.Refusing):
    def test_several_steps(self):
        self.assertEqual(looked(SEVERAL, 0, 0), ((0, 1, 2), (), (0,), (2,), (0,), (), (0,), (), ()))
        self.assertEqual(looked(SEVERAL, 0, 2), ((0,), (), (0,), (0,), (2,), (), (2,), (), ()))
        self.assertEqual(looked(SEVERAL, 2, 1), ((0, 1), (), (0,), (1,), (1,), (), (1,), (), ()))
        self.assertEqual(looked(SEVERAL, 1, 1), ((), (1,), (), (), (), (1,), (), (1,), (1,)))

    def test_needed(self):
        self.assertEqual(needed(SEVERAL, 0, 0), [(0, 0), (0, 1), (0, 2)])
        self.assertEqual(needed(SEVERAL, 0, 2), [(0, 0)])
        self.assertEqual(needed(SEVERAL, 2, 1), [(0, 0), (0, 1)])
        self.assertEqual(needed(SEVERAL, 1, 0), [(1, 0), (2, 0)])
        self.assertEqual(needed(SEVERAL, 1, 1), [(1, 1), (2, 1)])

    def test_an_out_that_is_an_in_step_or_a_number(self):
        program = ((("num", 1), ("in", (2, 2)), ("count", (2,), 0)), (0, 1, 2))
        self.assertEqual(looked(program, 0, 0), ((0,), (), ()))
        self.assertEqual(looked(program, 1, 3), ((), (3,), ()))
        self.assertEqual(looked(program, 2, 1), ((), (), (1,)))
        self.assertEqual(needed(program, 0, 0), [])
        self.assertEqual(needed(program, 1, 3), [(0, 3)])
        self.assertEqual(needed(program, 2, 1), [])

    def test_a_cell_that_is_reached_twice(self):
        program = ((("in", (2,)), ("flip", 0, 0), ("pair", "add", 0, 1), ("pair", "add", 2, 0)), (3,))
        self.assertEqual(looked(program, 0, 0), ((0, 1), (0,), (0,), (0,)))
        self.assertEqual(needed(program, 0, 0), [(0, 0), (0, 1)])

    def test_a_later_step_that_is_not_looked_at(self):
        program = ((("in", (2,)), ("each", "neg", 0), ("each", "neg", 1)), (1,))
        self.assertEqual(looked(program, 0, 1), ((1,), (1,), ()))

    def test_kinds(self):
        told = looked(SEVERAL, 0, 0)
        self.assertIs(type(told), tuple)
        self.assertEqual([type(places) for places in told], [tuple] * 9)
        self.assertIs(type(needed(SEVERAL, 0, 0)), list)
        self.assertIs(type(needed(SEVERAL, 0, 0)[0]), tuple)

    def test_no_such_out(self):
        for function in (looked, needed):
            for out in (-common.GREAT, -3, -1, 3, 4, common.GREAT):
                for place in (0, -1, 99):
                    self.refused(NoPlace, function, SEVERAL, out, place)
            for place in (-common.GREAT, -1, 3, common.GREAT):
                self.refused(NoPlace, function, SEVERAL, 0, place)
            self.refused(NoPlace, function, SEVERAL, 1, 2)

    def test_an_out_without_cells(self):
        program = ((("in", (0, 2)), ("num", 1)), (0,))
        self.refused(NoPlace, looked, program, 0, 0)
        self.refused(NoPlace, needed, program, 0, 0)

    def test_programs_that_are_not_good_go_ahead(self):
        for program, fault in BAD:
            for function in (looks, looked, needed):
                for k, place in ((0, 0), (-1, 0), (0, -1), (99, 99)):
                    with self.assertRaises(BadStep) as taken:
                        function(program, k, place)
                    self.assertEqual((taken.exception.at, taken.exception.why), fault)

    def test_programs_by_chance(self):
        for program in random_programs(62, 60, 12):
            sides = checked(program)
            ins = [k for k, step in enumerate(program[0]) if step[0] == "in"]
            for out, step in enumerate(program[1]):
                for place in range(len(common.spots(sides[step]))):
                    told = model_looked(program, out, place)
                    self.assertEqual(looked(program, out, place), told)
                    pairs = [(number, here) for number, k in enumerate(ins) for here in told[k]]
                    self.assertEqual(needed(program, out, place), pairs)

    def test_what_is_handed_in_stays(self):
        program = copy.deepcopy(ALL_FORMS)
        sides = list(checked(program))
        before = list(sides)
        looks(program, 13, 5)
        looked(program, 0, 5)
        needed(program, 0, 5)
        looks_in(program[0][13], sides, 5)
        self.assertEqual((program, sides), (ALL_FORMS, before))


class Counted(unittest.TestCase):
    """Point 0.5: a cell that is not needed may be changed, and the answer's cell stays."""

    def asked(self, program, inputs):
        before = answers(program, inputs)
        for out, tab in enumerate(before):
            pairs = [needed(program, out, place) for place in range(len(tab[1]))]
            for number, handed in enumerate(inputs):
                for here in range(len(handed[1])):
                    cells = handed[1][:here] + (handed[1][here] ^ 77,) + handed[1][here + 1:]
                    after = answers(program, inputs[:number] + ((handed[0], cells),) + inputs[number + 1:])[out][1]
                    for place, told in enumerate(pairs):
                        if (number, here) not in told:
                            self.assertEqual(after[place], tab[1][place])

    def test_all_fifteen_forms(self):
        self.asked(ALL_FORMS, ALL_FORMS_INPUTS)

    def test_programs_by_chance(self):
        for program in random_programs(63, 25, 10):
            self.asked((program[0], program[1][:2]), inputs_for(program, 3))


if __name__ == "__main__":
    unittest.main()
