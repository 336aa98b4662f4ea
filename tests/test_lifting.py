"""Points 0.6, 2.1, 2.8 to 2.10, 2.13 and the interface's part sideloom/lifting.py."""

import itertools
import unittest

from common import GREAT, GREATEST, LEAST, SHAPES, SIDE_NUMBERS, Refusing, looked_up, made, mixed, outcome, sample
from sideloom.errors import Beyond, NoSide, NoWord, TooLarge, Unlike
from sideloom.figures import once, twice
from sideloom.lifting import counted, each, fetch, lead, pair, pick
from sideloom.rules import counted_sides, fetched_sides, paired_sides, picked_sides

NUMBER = ((), (7,))
NONE = ((0,), ())
ROW = ((2,), (3, -4))
GRID = ((2, 3), (11, 12, 13, 21, 22, 23))
BLOCK = ((2, 3, 2), (111, 112, 121, 122, 131, 132, 211, 212, 221, 222, 231, 232))
ONCE = ("neg", "abs", "sign", "not")
TWICE = ("add", "sub", "mul", "quo", "rest", "max", "min", "less", "like", "and", "or", "xor")
NO_WORDS = ("", "Add", "plus", "add ", " neg", "in", "fold", "nots", "ad", "xx")


class Lifting(Refusing):
    def told(self, answer, function, *args):
        found = function(*args)
        self.assertEqual(found, answer)
        self.assertIs(type(found), tuple)
        self.assertIs(type(found[0]), tuple)
        self.assertIs(type(found[1]), tuple)

    def told_by_its_rule(self, rule_answer, function, *args):
        found = outcome(function, *args)
        if isinstance(rule_answer, tuple):
            self.assertEqual(found[0], rule_answer)
            self.assertEqual(len(looked_up(found)), len(found[1]))
        else:
            self.assertIs(found, rule_answer)


class Leading(Lifting):
    def test_cells(self):
        self.told(NUMBER, lead, NUMBER, ())
        self.told(((3,), (7, 7, 7)), lead, NUMBER, (3,))
        self.told(((2, 2), (7, 7, 7, 7)), lead, NUMBER, (2, 2))
        self.told(((2, 3), (3, 3, 3, -4, -4, -4)), lead, ROW, (2, 3))
        self.told(((2, 1, 2), (3, 3, -4, -4)), lead, ROW, (2, 1, 2))
        self.told(((2, 3, 2), (11, 11, 12, 12, 13, 13, 21, 21, 22, 22, 23, 23)), lead, GRID, (2, 3, 2))
        self.told(GRID, lead, GRID, (2, 3))

    def test_sides_of_nought(self):
        self.told(NONE, lead, NUMBER, (0,))
        self.told(NONE, lead, NONE, (0,))
        self.told(((0, 5), ()), lead, NONE, (0, 5))
        self.told(((2, 0, 3), ()), lead, ROW, (2, 0, 3))

    def test_every_beginning(self):
        for sides in SHAPES:
            for many in range(len(sides) + 1):
                tab = mixed(sides[:many])
                cells = looked_up(tab)
                self.told(made(sides, lambda at: cells[at[:many]]), lead, tab, sides)

    def test_no_beginning(self):
        for tab, sides in ((ROW, ()), (ROW, (3,)), (ROW, (3, 2)), (ROW, (0,)), (GRID, (2,)), (GRID, (3, 2)),
                           (GRID, (2, 4)), (GRID, (2, 4, 3)), (GRID, (3, 2, 3)), (GRID, ()), (NONE, (1,)), (NONE, ()),
                           (BLOCK, (2, 3)), (BLOCK, (2, 3, 3))):
            self.refused(Unlike, lead, tab, sides)


class Each(Lifting):
    def test_cells(self):
        self.told(((), (-7,)), each, "neg", NUMBER)
        self.told(((2,), (-3, 4)), each, "neg", ROW)
        self.told(((2,), (3, 4)), each, "abs", ROW)
        self.told(((2,), (1, -1)), each, "sign", ROW)
        self.told(((2, 2), (1, 0, 0, 1)), each, "not", ((2, 2), (0, 5, -5, 0)))

    def test_bounds_wrap(self):
        self.told(((3,), (LEAST, -GREATEST, 0)), each, "neg", ((3,), (LEAST, GREATEST, 0)))
        self.told(((2,), (LEAST, GREATEST)), each, "abs", ((2,), (LEAST, GREATEST)))

    def test_every_word_and_shape(self):
        for word in ONCE:
            for sides in SHAPES:
                tab = mixed(sides)
                self.told((sides, tuple([once(word, x) for x in tab[1]])), each, word, tab)

    def test_words_that_are_none(self):
        for word in NO_WORDS + TWICE:
            for tab in (NUMBER, ROW, GRID, NONE, ((3, 0), ())):
                self.refused(NoWord, each, word, tab)


class Pairing(Lifting):
    def test_cells(self):
        self.told(((), (14,)), pair, "add", NUMBER, NUMBER)
        self.told(((2,), (10, 3)), pair, "add", ROW, NUMBER)
        self.told(((2,), (-4, -11)), pair, "sub", ROW, NUMBER)
        self.told(((2,), (4, 11)), pair, "sub", NUMBER, ROW)
        self.told(((2, 3), (8, 9, 10, 25, 26, 27)), pair, "sub", GRID, ROW)
        self.told(((2, 3), (-8, -9, -10, -25, -26, -27)), pair, "sub", ROW, GRID)
        self.told(((2, 3), (121, 144, 169, 441, 484, 529)), pair, "mul", GRID, GRID)
        self.told(((2, 3, 2), (100, 101, 109, 110, 118, 119, 190, 191, 199, 200, 208, 209)), pair, "sub", BLOCK, GRID)

    def test_bounds_wrap(self):
        self.told(((2,), (LEAST, LEAST + 1)), pair, "add", ((2,), (GREATEST, LEAST)), ((), (1,)))
        self.told(((2,), (-2, 0)), pair, "mul", ((2,), (GREATEST, LEAST)), ((), (2,)))
        self.told(((1,), (LEAST,)), pair, "quo", ((1,), (LEAST,)), ((), (-1,)))

    def test_sides_of_nought(self):
        self.told(NONE, pair, "add", NONE, NUMBER)
        self.told(NONE, pair, "add", NUMBER, NONE)
        self.told(NONE, pair, "quo", NONE, NONE)
        self.told(((2, 0), ()), pair, "add", ROW, ((2, 0), ()))

    def test_every_word_and_beginning(self):
        for word in TWICE:
            for sides in SHAPES:
                for many in sorted(set([0, len(sides) // 2, len(sides)])):
                    long = mixed(sides)
                    short = sample(sides[:many], -2)
                    one = looked_up(long)
                    two = looked_up(short)
                    self.told(made(sides, lambda at: twice(word, one[at], two[at[:many]])), pair, word, long, short)
                    self.told(made(sides, lambda at: twice(word, two[at[:many]], one[at])), pair, word, short, long)

    def test_unlike(self):
        for tab, other in ((ROW, sample((3,))), (ROW, sample((3, 2))), (GRID, sample((3,))), (GRID, sample((2, 4))),
                           (GRID, sample((3, 2, 2))), (BLOCK, sample((2, 2))), (NONE, ROW), (NONE, sample((1,)))):
            self.refused(Unlike, pair, "add", tab, other)
            self.refused(Unlike, pair, "add", other, tab)

    def test_words_that_are_none_go_first(self):
        for word in NO_WORDS + ONCE:
            for tab, other in ((NUMBER, NUMBER), (ROW, NUMBER), (GRID, ROW), (NONE, NONE), (NUMBER, NONE),
                               (ROW, sample((3,))), (NONE, ROW), (((2, 0), ()), GRID)):
                self.refused(NoWord, pair, word, tab, other)

    def test_as_its_rule(self):
        for sides, others in itertools.product(SHAPES, repeat=2):
            self.told_by_its_rule(outcome(paired_sides, sides, others), pair, "add", sample(sides), sample(others))


class Picking(Lifting):
    def test_cells(self):
        for mark, answer in ((0, 2), (1, 1), (-1, 1), (LEAST, 1), (GREATEST, 1), (2**32, 1)):
            self.told(((), (answer,)), pick, ((), (mark,)), ((), (1,)), ((), (2,)))
        self.told(((4,), (1, 20, 3, 4)), pick, ((4,), (5, 0, -1, LEAST)), ((4,), (1, 2, 3, 4)),
                  ((4,), (10, 20, 30, 40)))
        self.told(GRID, pick, ((), (1,)), GRID, NUMBER)
        self.told(((2, 3), (7,) * 6), pick, ((), (0,)), GRID, NUMBER)

    def test_each_of_the_three_is_led(self):
        marks = ((2,), (0, 1))
        self.told(((2, 3), (7, 7, 7, 21, 22, 23)), pick, marks, GRID, NUMBER)
        self.told(((2, 3), (11, 12, 13, 7, 7, 7)), pick, marks, NUMBER, GRID)
        self.told(((2,), (3, 7)), pick, marks, NUMBER, ROW)
        self.told(((2, 2), (3, 7, 7, -4)), pick, ((2, 2), (0, 1, 1, 0)), NUMBER, ROW)
        self.told(((2,), (0, -4)), pick, marks, ROW, marks)

    def test_sides_of_nought(self):
        self.told(NONE, pick, NONE, NUMBER, NUMBER)
        self.told(NONE, pick, NUMBER, NONE, NUMBER)
        self.told(NONE, pick, NUMBER, NUMBER, NONE)
        self.told(((0, 2), ()), pick, NONE, NUMBER, ((0, 2), ()))

    def test_every_beginning(self):
        for sides in SHAPES:
            few = sorted(set([0, len(sides) // 2, len(sides)]))
            for a, b, c in itertools.product(few, repeat=3):
                marks = made(sides[:a], lambda at: sum(at) % 3 - 1)
                tab = sample(sides[:b], 100)
                other = sample(sides[:c], 5000)
                asked, one, two = looked_up(marks), looked_up(tab), looked_up(other)
                answer = made(sides[:max(a, b, c)], lambda at: one[at[:b]] if asked[at[:a]] else two[at[:c]])
                self.told(answer, pick, marks, tab, other)

    def test_unlike(self):
        three = sample((3,))
        for tabs in ((ROW, three, NUMBER), (ROW, NUMBER, three), (NUMBER, ROW, three), (ROW, ROW, three),
                     (GRID, ROW, three), (GRID, sample((2, 4)), ROW), (ROW, GRID, sample((2, 4))),
                     (NONE, ROW, NUMBER)):
            for order in itertools.permutations(tabs):
                self.refused(Unlike, pick, *order)

    def test_as_its_rule(self):
        few = ((), (0,), (2,), (3,), (2, 3), (2, 0), (2, 3, 4), (2, 3, 0))
        for three in itertools.product(few, repeat=3):
            self.told_by_its_rule(outcome(picked_sides, *three), pick, *[sample(sides) for sides in three])


class Fetching(Lifting):
    def test_cells(self):
        row = ((4,), (10, 20, 30, 40))
        self.told(((), (30,)), fetch, row, ((), (2,)))
        self.told(((3,), (40, 10, 10)), fetch, row, ((3,), (3, 0, 0)))
        self.told(((2, 2), (10, 20, 30, 40)), fetch, row, ((2, 2), (0, 1, 2, 3)))
        self.told(((3,), (21, 22, 23)), fetch, GRID, ((), (1,)))
        self.told(((3, 3), (21, 22, 23, 11, 12, 13, 21, 22, 23)), fetch, GRID, ((3,), (1, 0, 1)))
        self.told(((2, 3, 2), (211, 212, 221, 222, 231, 232, 111, 112, 121, 122, 131, 132)),
                  fetch, BLOCK, ((2,), (1, 0)))
        self.told(((1, 1, 3), (11, 12, 13)), fetch, GRID, ((1, 1), (0,)))

    def test_numbers_below_nought_and_far_beyond(self):
        row = ((3,), (10, 20, 30))
        for number in range(-12, 12):
            self.told(((), (row[1][(number + 12) % 3],)), fetch, row, ((), (number,)))
        self.told(((4,), (30, 20, 10, 30)), fetch, row, ((4,), (-1, -2, -3, -4)))
        self.told(((3,), (10, 20, 30)), fetch, row, ((3,), (3, 4, 5)))
        # Both bounds are 2 more than a multiple of 5.
        self.told(((2,), (3, 2)), fetch, ((5,), (0, 1, 2, 3, 4)), ((2,), (LEAST + 1, GREATEST)))
        self.told(((3,), (9, 9, 9)), fetch, ((1,), (9,)), ((3,), (LEAST, 0, GREATEST)))

    def test_sides_of_nought(self):
        self.told(NONE, fetch, ((2,), (1, 2)), NONE)
        self.told(((0, 3), ()), fetch, GRID, NONE)
        self.told(((2, 0), ()), fetch, ((3, 0), ()), ROW)
        self.told(((3, 0), ()), fetch, ((2,), (1, 2)), ((3, 0), ()))

    def test_all_sorts_of_sides(self):
        for sides in ((1,), (4,), (2, 3), (3, 0), (2, 3, 4), (1, 2, 1, 3)):
            tab = sample(sides, 100)
            cells = looked_up(tab)
            for others in ((), (0,), (3,), (2, 2), (2, 1, 3)):
                if len(others) + len(sides) > 7:
                    continue
                many = len(others)
                other = mixed(others)
                asked = looked_up(other)
                answer = made(others + sides[1:],
                              lambda at: cells[(asked[at[:many]] % sides[0],) + at[many:]])
                self.told(answer, fetch, tab, other)

    def test_refusals(self):
        for other in (NUMBER, NONE, ROW, sample((512,)), sample((1,) * 6)):
            self.refused(NoSide, fetch, NUMBER, other)
            self.refused(Beyond, fetch, NONE, other)
            self.refused(Beyond, fetch, ((0, 512), ()), other)
        self.refused(TooLarge, fetch, sample((1, 1)), sample((1,) * 6))
        self.refused(TooLarge, fetch, sample((1, 2)), sample((257,)))

    def test_as_its_rule(self):
        for sides, others in itertools.product(SHAPES, repeat=2):
            self.told_by_its_rule(outcome(fetched_sides, sides, others), fetch, sample(sides), sample(others))


class Counting(Lifting):
    def test_cells(self):
        self.told(((4,), (0, 1, 2, 3)), counted, (4,), 0)
        self.told(((2, 3), (0, 0, 0, 1, 1, 1)), counted, (2, 3), 0)
        self.told(((2, 3), (0, 1, 2, 0, 1, 2)), counted, (2, 3), 1)
        self.told(((2, 3, 2), (0, 0, 1, 1, 2, 2, 0, 0, 1, 1, 2, 2)), counted, (2, 3, 2), 1)
        self.told(((512,), tuple(range(512))), counted, (512,), 0)
        self.told(NONE, counted, (0,), 0)
        self.told(((2, 0), ()), counted, (2, 0), 0)

    def test_every_side(self):
        for sides in SHAPES:
            for side in range(len(sides)):
                self.told(made(sides, lambda at: at[side]), counted, sides, side)

    def test_refusals(self):
        self.refused(NoSide, counted, (), 0)
        self.refused(NoSide, counted, (2, 3), 2)
        self.refused(NoSide, counted, (2, 3), -1)
        for sides in ((1,) * 7, (513,), (0, 513), (GREAT,), (0, GREAT), (1,) * 99):
            for side in (0, -1, 100, GREAT):
                self.refused(TooLarge, counted, sides, side)

    def test_as_its_rule(self):
        for sides in SHAPES + ((1,) * 7, (0,) * 7, (513,), (2, 257), (0, GREAT)):
            for side in SIDE_NUMBERS:
                self.told_by_its_rule(outcome(counted_sides, sides, side), counted, sides, side)


class NothingKept(unittest.TestCase):
    def test_what_is_handed_in_stays(self):
        lead(ROW, (2, 3))
        each("neg", ROW)
        pair("add", ROW, GRID)
        pick(ROW, GRID, NUMBER)
        fetch(GRID, ROW)
        self.assertEqual(ROW, ((2,), (3, -4)))
        self.assertEqual(GRID, ((2, 3), (11, 12, 13, 21, 22, 23)))
        self.assertEqual(NUMBER, ((), (7,)))


if __name__ == "__main__":
    unittest.main()
