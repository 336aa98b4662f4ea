"""Points 0.6, 2.1, 2.11, 2.12 and the interface's part sideloom/folding.py."""

import unittest
import unittest.mock

from common import GREAT, GREATEST, LEAST, SHAPES, SIDE_NUMBERS, Refusing, looked_up, made, mixed, outcome, sample
from sideloom.errors import NoSide, NoWord
from sideloom.figures import twice
from sideloom.folding import fold, run
from sideloom.rules import folded_sides

NEUTRAL = {"add": 0, "mul": 1, "max": LEAST, "min": GREATEST, "and": -1, "or": 0, "xor": 0}
NO_FOLDS = ("sub", "quo", "rest", "less", "like", "neg", "abs", "sign", "not", "", "Add", "plus", "add ", "fold")
NUMBER = ((), (7,))
NONE = ((0,), ())
ROW = ((4,), (12, 10, 6, -3))
GRID = ((2, 3), (1, 2, 3, 10, 20, 30))
BLOCK = ((2, 3, 2), (1, 2, 3, 4, 5, 6, 10, 20, 30, 40, 50, 60))


def put_together(word, numbers):
    number = NEUTRAL[word]
    for more in numbers:
        number = twice(word, number, more)
    return number


class Folds(Refusing):
    def told(self, answer, function, *args):
        found = function(*args)
        self.assertEqual(found, answer)
        self.assertIs(type(found), tuple)
        self.assertIs(type(found[0]), tuple)
        self.assertIs(type(found[1]), tuple)


class Folding(Folds):
    def test_each_word(self):
        for word, answer in (("add", 25), ("mul", -2160), ("max", 12), ("min", -3), ("and", 12 & 10 & 6 & -3),
                             ("or", 12 | 10 | 6 | -3), ("xor", 12 ^ 10 ^ 6 ^ -3)):
            self.told(((), (answer,)), fold, word, ROW, 0)

    def test_each_side(self):
        self.told(((3,), (11, 22, 33)), fold, "add", GRID, 0)
        self.told(((2,), (6, 60)), fold, "add", GRID, 1)
        self.told(((3, 2), (11, 22, 33, 44, 55, 66)), fold, "add", BLOCK, 0)
        self.told(((2, 2), (9, 12, 90, 120)), fold, "add", BLOCK, 1)
        self.told(((2, 3), (3, 7, 11, 30, 70, 110)), fold, "add", BLOCK, 2)
        self.told(((2, 2), (15, 48, 15000, 48000)), fold, "mul", BLOCK, 1)

    def test_one_row(self):
        for word in NEUTRAL:
            for number in (0, 1, -1, 5, LEAST, GREATEST):
                self.told(((), (number,)), fold, word, ((1,), (number,)), 0)

    def test_a_side_of_nought(self):
        for word, number in NEUTRAL.items():
            self.told(((), (number,)), fold, word, NONE, 0)
            self.told(((3,), (number,) * 3), fold, word, ((3, 0), ()), 1)
            self.told(((3,), (number,) * 3), fold, word, ((0, 3), ()), 0)
            self.told(((2, 3), (number,) * 6), fold, word, ((2, 0, 3), ()), 1)
            self.told(NONE, fold, word, ((3, 0), ()), 0)
            self.told(NONE, fold, word, ((0, 3), ()), 1)
            self.told(NONE, fold, word, ((0, 0), ()), 0)
            self.told(((512,), (number,) * 512), fold, word, ((512, 0), ()), 1)

    def test_wrapped_on_the_way(self):
        self.told(((), (GREATEST,)), fold, "add", ((3,), (GREATEST, 1, -1)), 0)
        self.told(((), (LEAST,)), fold, "add", ((2,), (GREATEST, 1)), 0)
        self.told(((), (-3,)), fold, "add", ((3,), (GREATEST, GREATEST, -1)), 0)
        self.told(((), (0,)), fold, "mul", ((3,), (2**32, 2**32, 5)), 0)
        self.told(((), (LEAST,)), fold, "mul", ((2,), (LEAST, -1)), 0)
        self.told(((), (1,)), fold, "mul", ((2,), (GREATEST, GREATEST)), 0)

    def test_every_word_shape_and_side(self):
        for word in NEUTRAL:
            for sides in SHAPES:
                tab = mixed(sides)
                cells = looked_up(tab)
                for side in range(len(sides)):
                    answer = made(sides[:side] + sides[side + 1:], lambda at: put_together(
                        word, [cells[at[:side] + (k,) + at[side:]] for k in range(sides[side])]))
                    self.told(answer, fold, word, tab, side)


class Running(Folds):
    def test_each_word(self):
        for word, answer in (("add", (12, 22, 28, 25)), ("mul", (12, 120, 720, -2160)), ("max", (12, 12, 12, 12)),
                             ("min", (12, 10, 6, -3)), ("and", (12, 8, 0, 0)), ("or", (12, 14, 14, -1)),
                             ("xor", (12, 6, 0, -3))):
            self.told(((4,), answer), run, word, ROW, 0)

    def test_each_side(self):
        self.told(((2, 3), (1, 2, 3, 11, 22, 33)), run, "add", GRID, 0)
        self.told(((2, 3), (1, 3, 6, 10, 30, 60)), run, "add", GRID, 1)
        self.told(((2, 3, 2), (1, 2, 3, 4, 5, 6, 11, 22, 33, 44, 55, 66)), run, "add", BLOCK, 0)
        self.told(((2, 3, 2), (1, 2, 4, 6, 9, 12, 10, 20, 40, 60, 90, 120)), run, "add", BLOCK, 1)
        self.told(((2, 3, 2), (1, 3, 3, 7, 5, 11, 10, 30, 30, 70, 50, 110)), run, "add", BLOCK, 2)

    def test_a_side_of_nought(self):
        for word in NEUTRAL:
            for sides in ((0,), (3, 0), (0, 3), (2, 0, 3), (0, 0)):
                for side in range(len(sides)):
                    self.told((sides, ()), run, word, (sides, ()), side)

    def test_wrapped_on_the_way(self):
        self.told(((3,), (GREATEST, LEAST, GREATEST)), run, "add", ((3,), (GREATEST, 1, -1)), 0)
        self.told(((3,), (2**32, 0, 0)), run, "mul", ((3,), (2**32, 2**32, 5)), 0)
        self.told(((2,), (LEAST, LEAST)), run, "mul", ((2,), (LEAST, -1)), 0)

    def test_every_word_shape_and_side(self):
        for word in NEUTRAL:
            for sides in SHAPES:
                if max(sides, default=0) == 512:
                    continue
                tab = mixed(sides)
                cells = looked_up(tab)
                for side in range(len(sides)):
                    answer = made(sides, lambda at: put_together(
                        word, [cells[at[:side] + (k,) + at[side + 1:]] for k in range(at[side] + 1)]))
                    self.told(answer, run, word, tab, side)

    def test_a_long_side(self):
        self.told(((512,), tuple([k * (k + 1) // 2 for k in range(512)])), run, "add", ((512,), tuple(range(512))), 0)
        self.told(((), (511 * 256,)), fold, "add", ((512,), tuple(range(512))), 0)


class Order(Folds):
    def test_each_cell_is_the_second_number_from_the_first_cell_on(self):
        # None of the seven functions tells the order, so one that does is put in their place.
        with unittest.mock.patch("sideloom.folding.twice", lambda word, x, y: 10 * x + y):
            self.told(((2,), (123, 456)), fold, "add", ((2, 3), (1, 2, 3, 4, 5, 6)), 1)
            self.told(((3,), (114, 125, 136)), fold, "mul", ((2, 3), (1, 2, 3, 4, 5, 6)), 0)
            self.told(((2, 3), (1, 12, 123, 4, 45, 456)), run, "add", ((2, 3), (1, 2, 3, 4, 5, 6)), 1)
            self.told(((2, 3), (11, 12, 13, 114, 125, 136)), run, "mul", ((2, 3), (1, 2, 3, 4, 5, 6)), 0)


class BothRefusing(Folds):
    def test_sides_that_are_not_there(self):
        for word in NEUTRAL:
            for sides in SHAPES:
                tab = sample(sides)
                for side in SIDE_NUMBERS + (len(sides), -len(sides)):
                    if not 0 <= side < len(sides):
                        self.refused(NoSide, fold, word, tab, side)
                        self.refused(NoSide, run, word, tab, side)

    def test_words_that_do_not_fold(self):
        for word in NO_FOLDS:
            for tab in (ROW, GRID, BLOCK, NONE, ((3, 0), ()), ((0, 3), ())):
                self.refused(NoWord, fold, word, tab, 0)
                self.refused(NoWord, run, word, tab, 0)

    def test_the_word_goes_ahead_of_the_side(self):
        for word in NO_FOLDS:
            for tab, side in ((NUMBER, 0), (ROW, 1), (ROW, -1), (GRID, GREAT), (NONE, 1), (GRID, -GREAT)):
                self.refused(NoWord, fold, word, tab, side)
                self.refused(NoWord, run, word, tab, side)

    def test_as_the_rule(self):
        for sides in SHAPES:
            tab = sample(sides)
            for side in SIDE_NUMBERS:
                rule = outcome(folded_sides, sides, side)
                folded = outcome(fold, "add", tab, side)
                ran = outcome(run, "add", tab, side)
                if isinstance(rule, tuple):
                    self.assertEqual(folded[0], rule)
                    self.assertEqual(ran[0], sides)
                else:
                    self.assertIs(folded, rule)
                    self.assertIs(ran, rule)


class NothingKept(unittest.TestCase):
    def test_what_is_handed_in_stays(self):
        self.assertEqual(fold("add", GRID, 1), fold("add", GRID, 1))
        self.assertEqual(run("add", GRID, 1), run("add", GRID, 1))
        self.assertEqual(GRID, ((2, 3), (1, 2, 3, 10, 20, 30)))


if __name__ == "__main__":
    unittest.main()
