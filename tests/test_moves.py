"""Points 0.6, 2.1 to 2.7 and the interface's part sideloom/moves.py."""

import itertools
import unittest

from common import GREAT, GREATEST, LEAST, SHAPES, SIDE_NUMBERS, Refusing, looked_up, made, mixed, outcome, sample
from sideloom.errors import Beyond, NoSide, TooLarge, Unlike
from sideloom.moves import cut, flip, join, lay, spread, turn
from sideloom.rules import cut_sides, flipped_sides, joined_sides, laid_sides, spread_sides, turned_sides

NUMBER = ((), (7,))
ROW = ((4,), (10, 20, 30, 40))
NONE = ((0,), ())
# 11 is the cell at (0, 0), 23 the one at (1, 2).
GRID = ((2, 3), (11, 12, 13, 21, 22, 23))
# 111 is the cell at (0, 0, 0), 232 the one at (1, 2, 1).
BLOCK = ((2, 3, 2), (111, 112, 121, 122, 131, 132, 211, 212, 221, 222, 231, 232))
ENDS = ((2, 2), (LEAST, GREATEST, 0, -1))
ORDERS = ((), (0,), (1,), (0, 1), (1, 0), (0, 0), (2, 0, 1), (1, 2, 0), (0, 1, 1), (0, -1), (5, 4, 3, 2, 1, 0),
          (0, 2, 1, 3, 5, 4), (0, 1, 2, 3, 4, 5, 6), (1, 2, 3), (-GREAT,), (GREAT, 0))


class Moves(Refusing):
    def told(self, answer, function, *args):
        found = function(*args)
        self.assertEqual(found, answer)
        self.assertIs(type(found), tuple)
        self.assertIs(type(found[0]), tuple)
        self.assertIs(type(found[1]), tuple)

    def told_by_its_rule(self, rule_answer, function, *args):
        """The doing refuses what its rule refuses, and else has the rule's sides and as many cells."""
        found = outcome(function, *args)
        if isinstance(rule_answer, tuple):
            self.assertEqual(found[0], rule_answer)
            self.assertEqual(len(looked_up(found)), len(found[1]))
        else:
            self.assertIs(found, rule_answer)


class Turning(Moves):
    def test_cells(self):
        self.told(NUMBER, turn, NUMBER, ())
        self.told(ROW, turn, ROW, (0,))
        self.told(GRID, turn, GRID, (0, 1))
        self.told(((3, 2), (11, 21, 12, 22, 13, 23)), turn, GRID, (1, 0))
        self.told(((2, 2), (LEAST, 0, GREATEST, -1)), turn, ENDS, (1, 0))
        self.told(((2, 2, 3), (111, 121, 131, 211, 221, 231, 112, 122, 132, 212, 222, 232)), turn, BLOCK, (2, 0, 1))
        self.told(((3, 2, 2), (111, 211, 112, 212, 121, 221, 122, 222, 131, 231, 132, 232)), turn,
                  ((2, 3, 2), BLOCK[1]), (1, 2, 0))

    def test_sides_of_nought(self):
        self.told(NONE, turn, NONE, (0,))
        self.told(((0, 3), ()), turn, ((3, 0), ()), (1, 0))
        self.told(((3, 2, 0), ()), turn, ((2, 0, 3), ()), (2, 0, 1))

    def test_the_coordinate_of_the_told_side(self):
        for sides in SHAPES:
            tab = mixed(sides) if len(sides) > 3 else sample(sides)
            old = looked_up(tab)
            for order in list(itertools.permutations(range(len(sides))))[:60]:
                new = turn(tab, order)
                self.assertEqual(new[0], tuple([sides[k] for k in order]))
                for at, number in looked_up(new).items():
                    before = [None] * len(sides)
                    for k, coordinate in zip(order, at):
                        before[k] = coordinate
                    self.assertEqual(number, old[tuple(before)])

    def test_refusals(self):
        for tab, order in ((NUMBER, (0,)), (ROW, ()), (ROW, (1,)), (ROW, (0, 0)), (GRID, (0,)), (GRID, (1, 1)),
                           (GRID, (0, 2)), (GRID, (-1, 0)), (GRID, (0, 1, 2)), (GRID, (0, GREAT)), (NONE, ())):
            self.refused(NoSide, turn, tab, order)

    def test_as_its_rule(self):
        for sides in SHAPES:
            for order in ORDERS:
                self.told_by_its_rule(outcome(turned_sides, sides, order), turn, sample(sides), order)


class Flipping(Moves):
    def test_cells(self):
        self.told(((4,), (40, 30, 20, 10)), flip, ROW, 0)
        self.told(((2, 3), (21, 22, 23, 11, 12, 13)), flip, GRID, 0)
        self.told(((2, 3), (13, 12, 11, 23, 22, 21)), flip, GRID, 1)
        self.told(((2, 2), (GREATEST, LEAST, -1, 0)), flip, ENDS, 1)
        self.told(((2, 3, 2), (131, 132, 121, 122, 111, 112, 231, 232, 221, 222, 211, 212)), flip, BLOCK, 1)
        self.told(((1,), (5,)), flip, ((1,), (5,)), 0)

    def test_sides_of_nought(self):
        self.told(NONE, flip, NONE, 0)
        self.told(((3, 0), ()), flip, ((3, 0), ()), 0)
        self.told(((3, 0), ()), flip, ((3, 0), ()), 1)

    def test_every_side(self):
        for sides in SHAPES:
            tab = sample(sides)
            old = looked_up(tab)
            for side in range(len(sides)):
                answer = made(sides, lambda at: old[at[:side] + (sides[side] - 1 - at[side],) + at[side + 1:]])
                self.told(answer, flip, tab, side)
                self.told(tab, flip, answer, side)

    def test_as_its_rule(self):
        self.refused(NoSide, flip, NUMBER, 0)
        self.refused(NoSide, flip, GRID, 2)
        self.refused(NoSide, flip, GRID, -1)
        for sides in SHAPES:
            for side in SIDE_NUMBERS:
                self.told_by_its_rule(outcome(flipped_sides, sides, side), flip, sample(sides), side)


class Cutting(Moves):
    def test_cells(self):
        self.told(((2,), (20, 30)), cut, ROW, 0, 1, 2, 1)
        self.told(((2,), (10, 30)), cut, ROW, 0, 0, 2, 2)
        self.told(((2,), (10, 40)), cut, ROW, 0, 0, 2, 3)
        self.told(((1,), (40,)), cut, ROW, 0, 3, 1, 99)
        self.told(((1,), (20,)), cut, ROW, 0, 1, 1, GREAT)
        self.told(ROW, cut, ROW, 0, 0, 4, 1)
        self.told(((1, 3), (21, 22, 23)), cut, GRID, 0, 1, 1, 1)
        self.told(((2, 2), (11, 13, 21, 23)), cut, GRID, 1, 0, 2, 2)
        self.told(((2, 2), (12, 13, 22, 23)), cut, GRID, 1, 1, 2, 1)
        self.told(((2, 2, 2), (111, 112, 131, 132, 211, 212, 231, 232)), cut, BLOCK, 1, 0, 2, 2)
        self.told(((1, 2), (0, -1)), cut, ENDS, 0, 1, 1, 1)

    def test_many_of_nought(self):
        for first, step in ((0, 1), (4, 1), (5, 2), (GREAT, GREAT)):
            self.told(NONE, cut, ROW, 0, first, 0, step)
            self.told(NONE, cut, NONE, 0, first, 0, step)
            self.told(((2, 0), ()), cut, GRID, 1, first, 0, step)
            self.told(((0, 3), ()), cut, GRID, 0, first, 0, step)

    def test_without_cells(self):
        self.told(((2, 0), ()), cut, ((3, 0), ()), 0, 1, 2, 1)
        self.told(((0, 1), ()), cut, ((0, 3), ()), 1, 2, 1, 1)

    def test_rows_are_those_that_are_told(self):
        for sides in ((7,), (7, 2), (2, 7), (2, 7, 3), (1, 1, 2, 1, 7, 1)):
            tab = sample(sides)
            old = looked_up(tab)
            side = sides.index(7)
            for first, many, step in itertools.product(range(7), range(8), range(1, 5)):
                if many == 0 or first + (many - 1) * step < 7:
                    answer = made(sides[:side] + (many,) + sides[side + 1:],
                                  lambda at: old[at[:side] + (first + at[side] * step,) + at[side + 1:]])
                    self.told(answer, cut, tab, side, first, many, step)

    def test_refusals(self):
        for args in ((4, 1, 1), (0, 5, 1), (-1, 1, 1), (0, -1, 1), (0, 1, 0), (0, 1, -1), (0, 2, 4), (3, 2, -1),
                     (GREAT, 1, 1), (0, GREAT, 1), (0, 2, GREAT), (-GREAT, 0, 1), (0, 0, 0)):
            self.refused(Beyond, cut, ROW, 0, *args)
            self.refused(NoSide, cut, ROW, 1, *args)
            self.refused(NoSide, cut, ROW, -1, *args)
            self.refused(NoSide, cut, NUMBER, 0, *args)

    def test_as_its_rule(self):
        for sides in SHAPES:
            for side in SIDE_NUMBERS:
                for args in ((0, 1, 1), (0, 0, 1), (1, 2, 1), (0, 2, 2), (1, 1, 9), (-1, 1, 1), (0, -1, 1), (0, 1, 0),
                             (GREAT, 0, 1), (0, GREAT, 1), (2, 2, 1), (2, 3, 1)):
                    self.told_by_its_rule(outcome(cut_sides, sides, side, *args), cut, sample(sides), side, *args)


class Spreading(Moves):
    def test_cells(self):
        self.told(((3,), (7, 7, 7)), spread, NUMBER, 0, 3)
        self.told(((2, 4), (10, 20, 30, 40, 10, 20, 30, 40)), spread, ROW, 0, 2)
        self.told(((4, 2), (10, 10, 20, 20, 30, 30, 40, 40)), spread, ROW, 1, 2)
        self.told(((2, 2, 3), (11, 12, 13, 11, 12, 13, 21, 22, 23, 21, 22, 23)), spread, GRID, 1, 2)
        self.told(((2, 2, 2), (LEAST, LEAST, GREATEST, GREATEST, 0, 0, -1, -1)), spread, ENDS, 2, 2)
        self.told(((1, 2, 3), GRID[1]), spread, GRID, 0, 1)
        self.told(((512,), (7,) * 512), spread, NUMBER, 0, 512)

    def test_many_of_nought(self):
        self.told(NONE, spread, NUMBER, 0, 0)
        self.told(((0, 2, 3), ()), spread, GRID, 0, 0)
        self.told(((2, 0, 3), ()), spread, GRID, 1, 0)
        self.told(((2, 3, 0), ()), spread, GRID, 2, 0)

    def test_without_cells(self):
        self.told(((3, 0), ()), spread, NONE, 0, 3)
        self.told(((0, 512), ()), spread, NONE, 1, 512)

    def test_every_place(self):
        for sides in SHAPES:
            tab = sample(sides)
            old = looked_up(tab)
            for side in range(len(sides) + 1):
                for many in (0, 1, 3):
                    if len(sides) < 6 and outcome(spread_sides, sides, side, many) != TooLarge:
                        answer = made(sides[:side] + (many,) + sides[side:],
                                      lambda at: old[at[:side] + at[side + 1:]])
                        self.told(answer, spread, tab, side, many)

    def test_refusals(self):
        self.refused(NoSide, spread, NUMBER, 1, 2)
        self.refused(NoSide, spread, GRID, 3, -1)
        self.refused(NoSide, spread, GRID, -1, GREAT)
        self.refused(Beyond, spread, GRID, 2, -1)
        self.refused(Beyond, spread, ((1,) * 6, (5,)), 6, -1)
        self.refused(TooLarge, spread, ((1,) * 6, (5,)), 6, 1)
        self.refused(TooLarge, spread, GRID, 0, 86)
        self.refused(TooLarge, spread, NONE, 0, GREAT)

    def test_as_its_rule(self):
        for sides in SHAPES:
            for side in SIDE_NUMBERS:
                for many in (-GREAT, -1, 0, 1, 2, 4, 64, 512, 513, GREAT):
                    self.told_by_its_rule(outcome(spread_sides, sides, side, many), spread, sample(sides), side, many)


class Laying(Moves):
    def test_cells_stay_in_their_order(self):
        self.told(((3, 2), GRID[1]), lay, GRID, (3, 2))
        self.told(((6,), GRID[1]), lay, GRID, (6,))
        self.told(((1, 2, 1, 3), GRID[1]), lay, GRID, (1, 2, 1, 3))
        self.told(((2, 2), ROW[1]), lay, ROW, (2, 2))
        self.told(((1,), (7,)), lay, NUMBER, (1,))
        self.told(((1,) * 6, (7,)), lay, NUMBER, (1,) * 6)
        self.told(NUMBER, lay, ((1, 1), (7,)), ())
        self.told(((4,), ENDS[1]), lay, ENDS, (4,))
        self.told(GRID, lay, GRID, (2, 3))

    def test_without_cells(self):
        self.told(((5, 0, 2), ()), lay, NONE, (5, 0, 2))
        self.told(NONE, lay, ((3, 0), ()), (0,))

    def test_refusals(self):
        self.refused(Unlike, lay, GRID, (5,))
        self.refused(Unlike, lay, NUMBER, (0,))
        self.refused(Unlike, lay, NONE, ())
        self.refused(TooLarge, lay, NUMBER, (1,) * 7)
        self.refused(TooLarge, lay, GRID, (513,))
        self.refused(TooLarge, lay, NONE, (0, 513))
        self.refused(TooLarge, lay, GRID, (GREAT,))

    def test_as_its_rule(self):
        for sides in SHAPES:
            for others in SHAPES + ((1,) * 7, (0,) * 7, (513,), (2, 3, 86), (6,), (24,), (12, 2), (64, 8)):
                self.told_by_its_rule(outcome(laid_sides, sides, others), lay, sample(sides), others)


class Joining(Moves):
    def test_cells(self):
        self.told(((6,), (10, 20, 30, 40, 1, 2)), join, ROW, ((2,), (1, 2)), 0)
        self.told(((6,), (1, 2, 10, 20, 30, 40)), join, ((2,), (1, 2)), ROW, 0)
        self.told(((3, 3), (11, 12, 13, 21, 22, 23, 7, 8, 9)), join, GRID, ((1, 3), (7, 8, 9)), 0)
        self.told(((2, 5), (11, 12, 13, 6, 7, 21, 22, 23, 8, 9)), join, GRID, ((2, 2), (6, 7, 8, 9)), 1)
        self.told(((2, 4, 2), (111, 112, 121, 122, 131, 132, 1, 2, 211, 212, 221, 222, 231, 232, 3, 4)),
                  join, BLOCK, ((2, 1, 2), (1, 2, 3, 4)), 1)
        self.told(((2, 4), (LEAST, GREATEST, LEAST, GREATEST, 0, -1, 0, -1)), join, ENDS, ENDS, 1)

    def test_a_part_without_rows(self):
        self.told(ROW, join, ROW, NONE, 0)
        self.told(ROW, join, NONE, ROW, 0)
        self.told(NONE, join, NONE, NONE, 0)
        self.told(GRID, join, GRID, ((0, 3), ()), 0)
        self.told(GRID, join, ((2, 0), ()), GRID, 1)
        self.told(((0, 5), ()), join, ((0, 2), ()), ((0, 3), ()), 1)

    def test_every_side(self):
        for sides in SHAPES:
            for side in range(len(sides)):
                for more in (0, 1, 2, 3):
                    others = sides[:side] + (more,) + sides[side + 1:]
                    if outcome(joined_sides, sides, others, side) == TooLarge:
                        continue
                    tab = sample(sides)
                    other = sample(others, 1000)
                    first = looked_up(tab)
                    second = looked_up(other)
                    length = sides[side]
                    answer = made(sides[:side] + (length + more,) + sides[side + 1:], lambda at: (
                        first[at] if at[side] < length
                        else second[at[:side] + (at[side] - length,) + at[side + 1:]]))
                    self.told(answer, join, tab, other, side)

    def test_refusals(self):
        self.refused(Unlike, join, NUMBER, ROW, 0)
        self.refused(Unlike, join, ROW, GRID, 7)
        self.refused(NoSide, join, NUMBER, NUMBER, 0)
        self.refused(NoSide, join, GRID, GRID, 2)
        self.refused(NoSide, join, GRID, ((3, 2), GRID[1]), -1)
        self.refused(Unlike, join, GRID, ((3, 2), GRID[1]), 0)
        self.refused(Unlike, join, sample((1, 300)), sample((2, 256)), 1)
        self.refused(TooLarge, join, sample((300,)), sample((213,)), 0)

    def test_as_its_rule(self):
        pairs = list(itertools.product(SHAPES[:12], repeat=2)) + [(sides, sides) for sides in SHAPES]
        for sides, others in pairs:
            for side in SIDE_NUMBERS:
                self.told_by_its_rule(outcome(joined_sides, sides, others, side),
                                      join, sample(sides), sample(others), side)


class NothingKept(unittest.TestCase):
    def test_what_is_handed_in_stays(self):
        turn(GRID, (1, 0))
        flip(GRID, 0)
        cut(GRID, 1, 0, 2, 2)
        spread(GRID, 1, 2)
        lay(GRID, (6,))
        join(GRID, GRID, 0)
        self.assertEqual(GRID, ((2, 3), (11, 12, 13, 21, 22, 23)))
        self.assertEqual(turn(GRID, (1, 0)), turn(GRID, (1, 0)))


if __name__ == "__main__":
    unittest.main()
