"""Points 0.3, 0.4, 0.7, 5.1 and the interface's part sideloom/checking.py."""

import random
import unittest

import common
from model import model_told
from programs import ALL_FORMS, ALL_FORMS_SIDES, NO_INPUTS, random_programs
from sideloom.checking import checked, first_fault, step_sides
from sideloom.errors import BadStep, Beyond, NoSide, NoWord, TooLarge, Unlike
from sideloom.forms import args_of, with_args

GREAT = common.GREAT
# Sides of steps ahead: 0 to 8.
SIDES = ((2, 3), (2,), (), (3,), (0, 2), (2, 3, 4), (2, 0), (512,), (1, 1, 1, 1, 1, 1))
# Steps that make tables of such sides, 0 to 8.
MAKERS = (("in", (2, 3)), ("in", (2,)), ("num", 5), ("in", (3,)), ("in", (0, 2)), ("in", (2, 3, 4)), ("in", (2, 0)),
          ("in", (512,)), ("in", (1, 1, 1, 1, 1, 1)))
TOLD = (
    (("in", ()), ()),
    (("in", (2, 3)), (2, 3)),
    (("in", (512,)), (512,)),
    (("in", (0, 0, 0, 0, 0, 512)), (0, 0, 0, 0, 0, 512)),
    (("num", 7), ()),
    (("num", common.LEAST), ()),
    (("count", (4, 5), 0), (4, 5)),
    (("count", (4, 5), 1), (4, 5)),
    (("count", (0,), 0), (0,)),
    (("each", "neg", 0), (2, 3)),
    (("each", "not", 2), ()),
    (("pair", "add", 0, 1), (2, 3)),
    (("pair", "sub", 1, 0), (2, 3)),
    (("pair", "less", 2, 4), (0, 2)),
    (("pair", "xor", 5, 5), (2, 3, 4)),
    (("pick", 1, 0, 5), (2, 3, 4)),
    (("pick", 5, 2, 1), (2, 3, 4)),
    (("pick", 2, 6, 1), (2, 0)),
    (("turn", 5, (2, 0, 1)), (4, 2, 3)),
    (("turn", 2, ()), ()),
    (("flip", 5, 2), (2, 3, 4)),
    (("flip", 4, 0), (0, 2)),
    (("cut", 5, 2, 1, 2, 2), (2, 3, 2)),
    (("cut", 0, 1, 0, 0, 1), (2, 0)),
    (("cut", 4, 0, 5, 0, 7), (0, 2)),
    (("spread", 0, 0, 4), (4, 2, 3)),
    (("spread", 0, 2, 0), (2, 3, 0)),
    (("spread", 2, 0, 512), (512,)),
    (("lay", 0, (3, 2)), (3, 2)),
    (("lay", 2, (1, 1)), (1, 1)),
    (("lay", 4, (7, 0)), (7, 0)),
    (("join", 0, 0, 1), (2, 6)),
    (("join", 4, 4, 1), (0, 4)),
    (("join", 1, 3, 0), (5,)),
    (("fetch", 0, 1), (2, 3)),
    (("fetch", 5, 0), (2, 3, 3, 4)),
    (("fetch", 7, 2), ()),
    (("fetch", 7, 4), (0, 2)),
    (("fold", "add", 5, 1), (2, 4)),
    (("fold", "max", 1, 0), ()),
    (("run", "mul", 5, 1), (2, 3, 4)),
    (("run", "and", 4, 0), (0, 2)),
)
# Steps at fault, what the rule refuses with, and the word for it.
REFUSED = (
    (("in", (513,)), TooLarge, "large"),
    (("in", (2, 257)), TooLarge, "large"),
    (("in", (0, 513)), TooLarge, "large"),
    (("in", (1,) * 7), TooLarge, "large"),
    (("in", (GREAT,)), TooLarge, "large"),
    (("count", (513,), 0), TooLarge, "large"),
    (("count", (2, 3), 2), NoSide, "side"),
    (("count", (2, 3), -1), NoSide, "side"),
    (("count", (), 0), NoSide, "side"),
    (("each", "add", 0), NoWord, "word"),
    (("each", "nosuch", 4), NoWord, "word"),
    (("each", "", 2), NoWord, "word"),
    (("pair", "neg", 0, 0), NoWord, "word"),
    (("pair", "add", 0, 3), Unlike, "unlike"),
    (("pair", "add", 4, 1), Unlike, "unlike"),
    (("pick", 1, 0, 3), Unlike, "unlike"),
    (("pick", 3, 0, 1), Unlike, "unlike"),
    (("pick", 0, 3, 1), Unlike, "unlike"),
    (("pick", 2, 1, 3), Unlike, "unlike"),
    (("turn", 0, (0,)), NoSide, "side"),
    (("turn", 0, (0, 0)), NoSide, "side"),
    (("turn", 0, (0, 1, 2)), NoSide, "side"),
    (("turn", 0, (-1, 0)), NoSide, "side"),
    (("turn", 2, (0,)), NoSide, "side"),
    (("flip", 0, 2), NoSide, "side"),
    (("flip", 0, -1), NoSide, "side"),
    (("flip", 2, 0), NoSide, "side"),
    (("cut", 0, 2, 0, 1, 1), NoSide, "side"),
    (("cut", 0, 1, 0, 4, 1), Beyond, "beyond"),
    (("cut", 0, 1, 3, 1, 1), Beyond, "beyond"),
    (("cut", 0, 1, 0, 1, 0), Beyond, "beyond"),
    (("cut", 0, 1, -1, 1, 1), Beyond, "beyond"),
    (("cut", 0, 1, 0, -1, 1), Beyond, "beyond"),
    (("cut", 0, 1, GREAT, 1, 1), Beyond, "beyond"),
    (("spread", 0, 3, 1), NoSide, "side"),
    (("spread", 0, -1, 1), NoSide, "side"),
    (("spread", 0, 0, -1), Beyond, "beyond"),
    (("spread", 0, 0, 86), TooLarge, "large"),
    (("spread", 8, 6, 1), TooLarge, "large"),
    (("lay", 7, (513,)), TooLarge, "large"),
    (("lay", 2, (1,) * 7), TooLarge, "large"),
    (("lay", 0, (5,)), Unlike, "unlike"),
    (("lay", 0, ()), Unlike, "unlike"),
    (("join", 0, 1, 0), Unlike, "unlike"),
    (("join", 0, 6, 0), Unlike, "unlike"),
    (("join", 0, 0, 2), NoSide, "side"),
    (("join", 2, 2, 0), NoSide, "side"),
    (("join", 7, 7, 0), TooLarge, "large"),
    (("fetch", 2, 0), NoSide, "side"),
    (("fetch", 4, 0), Beyond, "beyond"),
    (("fetch", 8, 8), TooLarge, "large"),
    (("fetch", 5, 7), TooLarge, "large"),
    (("fold", "sub", 0, 0), NoWord, "word"),
    (("fold", "add", 0, 2), NoSide, "side"),
    (("fold", "add", 2, 0), NoSide, "side"),
    (("run", "quo", 0, 0), NoWord, "word"),
    (("run", "add", 0, -1), NoSide, "side"),
    (("run", "add", 2, 0), NoSide, "side"),
)
# Two due at once: the one that goes first is told.
BOTH = (
    (("count", (513,), 5), TooLarge, "large"),
    (("pair", "nosuch", 0, 3), NoWord, "word"),
    (("fold", "less", 0, 9), NoWord, "word"),
    (("run", "rest", 2, 0), NoWord, "word"),
    (("cut", 0, 5, -1, 9, 0), NoSide, "side"),
    (("spread", 8, 9, -1), NoSide, "side"),
    (("spread", 8, 0, -1), Beyond, "beyond"),
    (("lay", 0, (514,)), TooLarge, "large"),
    (("join", 0, 1, 9), Unlike, "unlike"),
    (("join", 0, 6, 9), NoSide, "side"),
    (("join", 7, 5, 0), Unlike, "unlike"),
    (("fetch", 2, 5), NoSide, "side"),
    (("fetch", 4, 8), Beyond, "beyond"),
)


class StepSides(common.Refusing):
    def test_all_fifteen_are_here(self):
        self.assertEqual(len({step[0] for step, told in TOLD}), 15)

    def test_sides_of_each_form(self):
        for step, told in TOLD:
            self.assertEqual(step_sides(step, SIDES), told, step)
            self.assertEqual(step_sides(step, list(SIDES)), told, step)
            self.assertIs(type(step_sides(step, SIDES)), tuple)

    def test_only_the_sides_that_are_used_are_looked_at(self):
        self.assertEqual(step_sides(("num", 1), ()), ())
        self.assertEqual(step_sides(("in", (2,)), []), (2,))
        self.assertEqual(step_sides(("each", "neg", 0), [(2,), (9999,)]), (2,))

    def test_refusals(self):
        for step, kind, why in REFUSED + BOTH:
            self.refused(kind, step_sides, step, SIDES)
            self.refused(kind, step_sides, step, list(SIDES))

    def test_all_words(self):
        for word in ("neg", "abs", "sign", "not"):
            self.assertEqual(step_sides(("each", word, 0), SIDES), (2, 3))
            self.refused(NoWord, step_sides, ("pair", word, 0, 0), SIDES)
            self.refused(NoWord, step_sides, ("run", word, 0, 0), SIDES)
        for word in ("add", "mul", "max", "min", "and", "or", "xor"):
            self.assertEqual(step_sides(("fold", word, 0, 0), SIDES), (3,))
            self.assertEqual(step_sides(("run", word, 0, 0), SIDES), (2, 3))
            self.assertEqual(step_sides(("pair", word, 0, 0), SIDES), (2, 3))
            self.refused(NoWord, step_sides, ("each", word, 0), SIDES)
        for word in ("sub", "quo", "rest", "less", "like"):
            self.assertEqual(step_sides(("pair", word, 0, 0), SIDES), (2, 3))
            self.refused(NoWord, step_sides, ("fold", word, 0, 0), SIDES)
            self.refused(NoWord, step_sides, ("run", word, 0, 0), SIDES)

    def test_what_is_handed_in_stays(self):
        sides = list(SIDES)
        for step, told in TOLD:
            step_sides(step, sides)
        self.assertEqual(sides, list(SIDES))


class Faults(common.Refusing):
    def told(self, program, fault):
        self.assertEqual(first_fault(program), fault)
        if fault is None:
            checked(program)
            return
        self.assertIs(type(first_fault(program)), tuple)
        with self.assertRaises(BadStep) as taken:
            checked(program)
        self.assertIs(type(taken.exception), BadStep)
        self.assertEqual((taken.exception.at, taken.exception.why), fault)

    def test_good_programs(self):
        for step, sides in TOLD:
            program = (MAKERS + (step,), (9,))
            self.told(program, None)
            self.assertEqual(checked(program), SIDES + (sides,))
            self.assertIs(type(checked(program)), tuple)
        self.assertEqual(checked(ALL_FORMS), ALL_FORMS_SIDES)
        self.assertEqual(checked(NO_INPUTS), ((3,), (), (3,), ()))

    def test_each_fault(self):
        for step, kind, why in REFUSED + BOTH:
            self.told((MAKERS + (step,), (9,)), (9, why))
            self.told((MAKERS + (step,), (0,)), (9, why))

    def test_a_fault_in_the_first_step(self):
        self.told(((("in", (513,)),), (0,)), (0, "large"))
        self.told(((("count", (), 0),), (0,)), (0, "side"))
        self.told(((("each", "neg", 0),), (0,)), (0, "name"))

    def test_names(self):
        for number in (-GREAT, -10, -1, 9, 10, 40, GREAT):
            for step in (("each", "neg", number), ("pair", "add", number, 0), ("pair", "add", 0, number),
                         ("pick", number, 0, 0), ("pick", 0, number, 0), ("pick", 0, 0, number),
                         ("turn", number, (0, 1)), ("flip", number, 0), ("cut", number, 0, 0, 1, 1),
                         ("spread", number, 0, 1), ("lay", number, (6,)), ("join", number, 0, 0),
                         ("join", 0, number, 0), ("fetch", number, 0), ("fetch", 0, number),
                         ("fold", "add", number, 0), ("run", "add", number, 0)):
                self.told((MAKERS + (step, ("num", 1)), (0,)), (9, "name"))

    def test_the_greatest_and_the_least_number_that_may_be_used(self):
        self.told((MAKERS + (("each", "neg", 8),), (0,)), None)
        self.told((MAKERS + (("each", "neg", 0),), (0,)), None)

    def test_name_goes_ahead_of_the_rule(self):
        for step in (("each", "nosuch", 9), ("pair", "nosuch", 0, -1), ("pair", "add", 99, 3), ("flip", 9, 7),
                     ("cut", 9, 9, 9, 9, 0), ("spread", 9, 9, -1), ("lay", 9, (513,)), ("turn", -1, (7,)),
                     ("fold", "less", 9, 0), ("run", "nosuch", -1, 9), ("join", 9, 1, 7), ("fetch", 2, 9)):
            self.told((MAKERS + (step,), (0,)), (9, "name"))

    def test_many(self):
        steps = tuple([("num", k) for k in range(40)])
        self.told((steps, (39,)), None)
        self.assertEqual(checked((steps, (0,))), ((),) * 40)
        self.told((steps + (("num", 1),), (0,)), (40, "many"))
        self.told((steps + (("num", 1),) * 5, (0,)), (40, "many"))

    def test_many_goes_ahead_of_name_and_of_the_rule(self):
        steps = tuple([("num", k) for k in range(40)])
        for step in (("each", "neg", 99), ("each", "neg", -1), ("each", "nosuch", 0), ("in", (513,)), ("flip", 0, 0)):
            self.told((steps + (step,), (0,)), (40, "many"))
            self.told((steps + (("num", 1), step), (0,)), (40, "many"))
            self.told((steps[:39] + (step, ("num", 1)), (0,)), (39, first_fault(((("num", 1), step), (0,)))[1]))

    def test_the_fortieth_step_at_fault(self):
        steps = tuple([("num", k) for k in range(39)])
        self.told((steps + (("flip", 0, 0),), (0,)), (39, "side"))
        self.told((steps + (("each", "neg", 39),), (0,)), (39, "name"))
        self.told((steps + (("each", "neg", 38),), (0,)), None)

    def test_an_earlier_step_goes_ahead_of_a_later(self):
        for step, kind, why in REFUSED:
            self.told((MAKERS + (step, ("each", "neg", 99), ("in", (513,))), ()), (9, why))
            self.told((MAKERS + (("each", "neg", 99), step), ()), (9, "name"))

    def test_a_step_that_uses_one_at_fault(self):
        self.told(((("in", (513,)), ("each", "neg", 0)), (1,)), (0, "large"))

    def test_steps_that_nothing_uses_are_looked_at_too(self):
        self.told(((("num", 1), ("count", (), 0)), (0,)), (1, "side"))

    def test_outs(self):
        steps = (("num", 1), ("num", 2), ("num", 3))
        for outs in ((0,), (2,), (0, 0), (2, 1, 0), (0,) * 8, (0, 1, 2, 0, 1, 2, 0, 1)):
            self.told((steps, outs), None)
        for outs in ((), (0,) * 9, (0,) * 100, (3,), (-1,), (0, 3), (3, 0), (0, -1), (GREAT,), (-GREAT,), (-3,),
                     (0,) * 7 + (3,), (0,) * 8 + (3,)):
            self.told((steps, outs), (3, "out"))

    def test_a_step_goes_ahead_of_the_outs(self):
        for outs in ((), (0,) * 9, (7,), (-1,)):
            self.told(((("num", 1), ("flip", 0, 0), ("num", 1)), outs), (1, "side"))
            self.told((tuple([("num", 1)] * 41), outs), (40, "many"))

    def test_no_steps(self):
        for outs in ((), (0,), (-1,), (0,) * 9):
            self.told(((), outs), (0, "out"))

    def test_programs_by_chance(self):
        for program in random_programs(51, 300):
            self.told(program, None)
            self.assertEqual(checked(program), tuple(model_told(program)[0]))

    def test_programs_by_chance_with_something_changed(self):
        chance = random.Random(52)
        seen = {}
        for program in random_programs(53, 600):
            for turn in range(4):
                other = changed_somewhere(chance, program)
                sides, fault = model_told(other)
                self.told(other, fault)
                if fault is None:
                    self.assertEqual(checked(other), tuple(sides))
                else:
                    seen[fault[1]] = True
        self.assertEqual(sorted(seen), ["beyond", "large", "name", "out", "side", "unlike", "word"])


def changed_number(chance, number):
    return chance.choice((number + 1, number - 1, -1, 0, 1, 2, 3, 600, number * 2))


def changed_part(chance, part):
    if isinstance(part, str):
        return chance.choice(("neg", "add", "sub", "nosuch", "mul"))
    if isinstance(part, int):
        return changed_number(chance, part)
    numbers = list(part)
    if numbers and chance.random() < 0.7:
        k = chance.randrange(len(numbers))
        numbers[k] = max(0, changed_number(chance, numbers[k]))
    else:
        numbers.append(chance.randrange(4))
    return tuple(numbers)


def changed_somewhere(chance, program):
    """The program with one part of a step, one argument or one out changed."""
    steps = list(program[0])
    outs = program[1]
    k = chance.randrange(len(steps) + 1)
    if k == len(steps):
        return (program[0], tuple([changed_number(chance, out) for out in outs]))
    step = steps[k]
    if chance.random() < 0.3:
        steps[k] = with_args(step, tuple([changed_number(chance, number) for number in args_of(step)]))
    else:
        place = chance.randrange(1, len(step))
        steps[k] = step[:place] + (changed_part(chance, step[place]),) + step[place + 1:]
    return (tuple(steps), outs)


if __name__ == "__main__":
    unittest.main()
