"""Points 2.1 to 2.13 as rules for sides, and the interface's part sideloom/rules.py."""

import itertools
import unittest

from common import GREAT, SHAPES, SIDE_NUMBERS, Refusing, outcome
from sideloom.errors import Beyond, NoSide, TooLarge, Unlike
from sideloom.rules import (
    counted_sides, cut_sides, fetched_sides, flipped_sides, folded_sides, joined_sides, laid_sides, paired_sides,
    picked_sides, spread_sides, turned_sides)

SIX = (2, 2, 2, 2, 2, 2)


class Rules(Refusing):
    def told(self, answer, function, *args):
        found = function(*args)
        self.assertEqual(found, answer)
        self.assertIs(type(found), tuple)


class Turning(Rules):
    def test_sides_in_another_order(self):
        self.told((), turned_sides, (), ())
        self.told((5,), turned_sides, (5,), (0,))
        self.told((2, 3), turned_sides, (2, 3), (0, 1))
        self.told((3, 2), turned_sides, (2, 3), (1, 0))
        self.told((4, 2, 3), turned_sides, (2, 3, 4), (2, 0, 1))
        self.told((3, 4, 2), turned_sides, (2, 3, 4), (1, 2, 0))
        self.told((3, 2, 0), turned_sides, (2, 0, 3), (2, 0, 1))
        self.told((6, 5, 4, 3, 2, 1), turned_sides, (1, 2, 3, 4, 5, 6), (5, 4, 3, 2, 1, 0))

    def test_all_orders(self):
        sides = (2, 3, 4, 5)
        for order in itertools.permutations(range(4)):
            self.told(tuple([sides[k] for k in order]), turned_sides, sides, order)

    def test_orders_that_are_none(self):
        for sides, order in (
                ((), (0,)), ((), (-1,)), ((), (0, 1)), ((5,), ()), ((5,), (1,)), ((5,), (-1,)), ((5,), (0, 0)),
                ((5,), (0, 1)), ((2, 3), ()), ((2, 3), (0,)), ((2, 3), (1,)), ((2, 3), (0, 0)), ((2, 3), (1, 1)),
                ((2, 3), (1, 2)), ((2, 3), (0, 2)), ((2, 3), (-1, 0)), ((2, 3), (-2, -1)), ((2, 3), (1, -1)),
                ((2, 3), (0, 1, 2)), ((2, 3), (0, 1, 0)), ((2, 3), (0, GREAT)), ((2, 3), (-GREAT, 1)),
                ((2, 3, 4), (0, 1, 1)), ((2, 3, 4), (0, 2, 2)), ((2, 3, 4), (3, 1, 0)), ((2, 3, 4), (1, 2, 3)),
                ((2, 2), (0,) * 1000), ((1, 1), (0, 1, -1)), (SIX, (0, 1, 2, 3, 4)), (SIX, (0, 1, 2, 3, 4, 6))):
            self.refused(NoSide, turned_sides, sides, order)

    def test_every_short_order(self):
        for many in (0, 1, 2, 3):
            for length in range(5):
                for order in itertools.product(range(-1, 4), repeat=length):
                    good = list(range(many)) == sorted(order)
                    answer = tuple([(7, 8, 9)[k] for k in order]) if good else NoSide
                    self.assertEqual(outcome(turned_sides, (7, 8, 9)[:many], order), answer)


class OneSide(Rules):
    def test_flipped(self):
        for sides in SHAPES:
            for side in range(len(sides)):
                self.told(sides, flipped_sides, sides, side)

    def test_folded(self):
        self.told((), folded_sides, (5,), 0)
        self.told((), folded_sides, (0,), 0)
        self.told((3,), folded_sides, (2, 3), 0)
        self.told((2,), folded_sides, (2, 3), 1)
        self.told((2, 4), folded_sides, (2, 3, 4), 1)
        self.told((2, 3), folded_sides, (2, 3, 4), 2)
        self.told((2, 3), folded_sides, (2, 0, 3), 1)
        self.told((0, 3), folded_sides, (2, 0, 3), 0)
        self.told((1, 2, 3, 5, 6), folded_sides, (1, 2, 3, 4, 5, 6), 3)

    def test_sides_that_are_not_there(self):
        for sides in SHAPES:
            for side in SIDE_NUMBERS + (len(sides), len(sides) + 1, -len(sides) - 1):
                if not 0 <= side < len(sides):
                    self.refused(NoSide, flipped_sides, sides, side)
                    self.refused(NoSide, folded_sides, sides, side)
                    self.refused(NoSide, counted_sides, sides, side)

    def test_counted(self):
        for sides in SHAPES:
            for side in range(len(sides)):
                self.told(sides, counted_sides, sides, side)

    def test_counted_sides_that_are_not_allowed(self):
        for sides in ((1,) * 7, (0,) * 7, (513,), (0, 513), (27, 19), (2, 0, 257), (GREAT,), (0, GREAT), (1,) * 50):
            for side in (0, 1, -1, 7, GREAT):
                self.refused(TooLarge, counted_sides, sides, side)


class Cutting(Rules):
    def test_cut(self):
        self.told((3,), cut_sides, (5,), 0, 1, 3, 1)
        self.told((5,), cut_sides, (5,), 0, 0, 5, 1)
        self.told((1,), cut_sides, (5,), 0, 4, 1, 1)
        self.told((2, 2, 4), cut_sides, (2, 3, 4), 1, 0, 2, 2)
        self.told((2, 3, 2), cut_sides, (2, 3, 4), 2, 1, 2, 2)
        self.told((1, 3, 4), cut_sides, (2, 3, 4), 0, 1, 1, 9)
        self.told((171,), cut_sides, (512,), 0, 1, 171, 3)

    def test_a_step_is_asked_only_where_two_rows_or_more_are_taken(self):
        self.told((1,), cut_sides, (5,), 0, 4, 1, GREAT)
        self.refused(Beyond, cut_sides, (5,), 0, 0, 2, GREAT)
        self.refused(Beyond, cut_sides, (5,), 0, 4, 2, 1)

    def test_many_of_nought(self):
        for first in (0, 1, 4, 5, 6, GREAT):
            for step in (1, 2, 9, GREAT):
                self.told((0,), cut_sides, (5,), 0, first, 0, step)
                self.told((0,), cut_sides, (0,), 0, first, 0, step)
                self.told((2, 0), cut_sides, (2, 3), 1, first, 0, step)

    def test_beyond(self):
        for args in ((0, 6, 1), (3, 3, 1), (0, 3, 3), (1, 3, 2), (4, 2, 1), (-1, 1, 1), (-1, 0, 1),
                     (0, -1, 1), (0, 1, 0), (0, 0, 0), (0, 1, -1), (4, 3, -1), (0, 0, -GREAT), (GREAT, 1, 1),
                     (-GREAT, 1, 1), (0, GREAT, 1), (0, -GREAT, 1), (0, 2, GREAT), (-GREAT, 2, GREAT), (6, 1, 1)):
            self.refused(Beyond, cut_sides, (5,), 0, *args)
            self.refused(Beyond, cut_sides, (2, 5), 1, *args)
        self.refused(Beyond, cut_sides, (0,), 0, 0, 1, 1)
        self.refused(Beyond, cut_sides, (3, 0), 1, 0, 1, 1)

    def test_every_small_cut(self):
        for length in range(5):
            for first, many, step in itertools.product(range(-1, 6), range(-1, 6), range(-1, 4)):
                rows = [first + k * step for k in range(many)]
                bad = first < 0 or many < 0 or step < 1 or any([row >= length for row in rows])
                self.assertEqual(outcome(cut_sides, (2, length), 1, first, many, step),
                                 Beyond if bad else (2, many))

    def test_no_side_goes_ahead_of_beyond(self):
        for side in (-1, -2, 2, 3, GREAT, -GREAT):
            for args in ((0, 1, 1), (-1, 1, 1), (0, -1, 1), (0, 1, 0), (9, 9, 9), (GREAT, GREAT, GREAT)):
                self.refused(NoSide, cut_sides, (2, 3), side, *args)
        self.refused(NoSide, cut_sides, (), 0, 0, 0, 1)
        self.refused(NoSide, cut_sides, (), 0, -1, -1, 0)


class Spreading(Rules):
    def test_spread(self):
        self.told((4,), spread_sides, (), 0, 4)
        self.told((0,), spread_sides, (), 0, 0)
        self.told((4, 2, 3), spread_sides, (2, 3), 0, 4)
        self.told((2, 4, 3), spread_sides, (2, 3), 1, 4)
        self.told((2, 3, 4), spread_sides, (2, 3), 2, 4)
        self.told((2, 0, 3), spread_sides, (2, 3), 1, 0)
        self.told((0, 0), spread_sides, (0,), 1, 0)
        self.told((2, 3, 0, 5, 0, 1), spread_sides, (2, 3, 0, 5, 0), 5, 1)

    def test_breadth_of_512(self):
        self.told((512,), spread_sides, (), 0, 512)
        self.told((2, 256), spread_sides, (2,), 1, 256)
        self.told((512, 0), spread_sides, (0,), 0, 512)
        self.told((512, 0), spread_sides, (512,), 1, 0)

    def test_no_side(self):
        for sides in SHAPES:
            for side in (-1, -2, -7, -GREAT, len(sides) + 1, len(sides) + 2, GREAT):
                self.refused(NoSide, spread_sides, sides, side, 1)

    def test_beyond(self):
        for many in (-1, -2, -513, -GREAT):
            for side in (0, 1, 2):
                self.refused(Beyond, spread_sides, (2, 3), side, many)
            self.refused(Beyond, spread_sides, (), 0, many)

    def test_too_large(self):
        for side in range(7):
            for many in (0, 1, 2):
                self.refused(TooLarge, spread_sides, (1,) * 6, side, many)
                self.refused(TooLarge, spread_sides, (0,) * 6, side, many)
        for sides, many in (((), 513), ((2,), 257), ((0,), 513), ((2, 0), 257), ((512,), 2), ((2, 3), GREAT)):
            self.refused(TooLarge, spread_sides, sides, 0, many)

    def test_order_of_refusals(self):
        self.refused(NoSide, spread_sides, (2, 3), 3, -1)
        self.refused(NoSide, spread_sides, (2, 3), -1, 1000)
        self.refused(NoSide, spread_sides, (1,) * 6, 7, -1)
        self.refused(Beyond, spread_sides, (1,) * 6, 6, -1)
        self.refused(Beyond, spread_sides, (512,), 0, -GREAT)
        self.refused(TooLarge, spread_sides, (512,), 1, GREAT)


class Laying(Rules):
    def test_laid(self):
        self.told((), laid_sides, (), ())
        self.told((1,), laid_sides, (), (1,))
        self.told((), laid_sides, (1, 1), ())
        self.told((3, 2), laid_sides, (2, 3), (3, 2))
        self.told((6,), laid_sides, (2, 3), (6,))
        self.told((2, 1, 3, 1), laid_sides, (6,), (2, 1, 3, 1))
        self.told((1,) * 6, laid_sides, (), (1,) * 6)
        self.told((4, 2, 4, 4, 2, 2), laid_sides, (512,), (4, 2, 4, 4, 2, 2))

    def test_without_cells(self):
        self.told((0,), laid_sides, (3, 0), (0,))
        self.told((3, 0), laid_sides, (0,), (3, 0))
        self.told((0, 512), laid_sides, (2, 0, 5), (0, 512))

    def test_unlike(self):
        for sides, others in (((), (0,)), ((), (2,)), ((0,), ()), ((0,), (1,)), ((2, 3), (5,)), ((2, 3), (2, 2)),
                              ((2, 3), (7,)), ((2, 3), (2, 3, 0)), ((2, 3), ()), ((512,), (511,)), ((2, 0), (2,))):
            self.refused(Unlike, laid_sides, sides, others)

    def test_too_large_goes_first(self):
        for sides in ((), (0,), (2, 3), (512,)):
            for others in ((1,) * 7, (0,) * 7, (513,), (0, 513), (27, 19), (GREAT,), (0, GREAT), (1,) * 99):
                self.refused(TooLarge, laid_sides, sides, others)


class Joining(Rules):
    def test_joined(self):
        self.told((5,), joined_sides, (2,), (3,), 0)
        self.told((3,), joined_sides, (0,), (3,), 0)
        self.told((3,), joined_sides, (3,), (0,), 0)
        self.told((0,), joined_sides, (0,), (0,), 0)
        self.told((4, 3), joined_sides, (1, 3), (3, 3), 0)
        self.told((2, 7), joined_sides, (2, 3), (2, 4), 1)
        self.told((2, 9, 4), joined_sides, (2, 3, 4), (2, 6, 4), 1)
        self.told((2, 3, 8), joined_sides, (2, 3, 4), (2, 3, 4), 2)
        self.told((2, 0, 8), joined_sides, (2, 0, 4), (2, 0, 4), 2)
        self.told((1, 1, 1, 1, 1, 5), joined_sides, (1, 1, 1, 1, 1, 2), (1, 1, 1, 1, 1, 3), 5)
        self.told((512,), joined_sides, (511,), (1,), 0)
        self.told((0, 512), joined_sides, (0, 256), (0, 256), 1)

    def test_not_as_many_sides(self):
        for sides, others in (((), (1,)), ((1,), ()), ((2,), (2, 3)), ((2, 3), (2,)), ((2, 3), (2, 3, 1)),
                              ((2, 3), (2, 3, 0))):
            for side in SIDE_NUMBERS:
                self.refused(Unlike, joined_sides, sides, others, side)

    def test_no_side(self):
        for side in SIDE_NUMBERS:
            self.refused(NoSide, joined_sides, (), (), side)
        for side in (-1, -2, 2, 3, GREAT, -GREAT):
            self.refused(NoSide, joined_sides, (2, 3), (2, 3), side)
            self.refused(NoSide, joined_sides, (2, 3), (4, 5), side)

    def test_another_side_differs(self):
        self.refused(Unlike, joined_sides, (2, 3), (2, 4), 0)
        self.refused(Unlike, joined_sides, (2, 3), (4, 3), 1)
        self.refused(Unlike, joined_sides, (2, 3), (3, 2), 0)
        self.refused(Unlike, joined_sides, (2, 3, 4), (2, 5, 5), 1)
        self.refused(Unlike, joined_sides, (2, 3, 4), (1, 3, 5), 2)
        self.refused(Unlike, joined_sides, (0, 3), (0, 4), 0)
        self.refused(Unlike, joined_sides, (2, 0), (2, 1), 0)

    def test_too_large(self):
        self.refused(TooLarge, joined_sides, (512,), (1,), 0)
        self.refused(TooLarge, joined_sides, (300,), (300,), 0)
        self.refused(TooLarge, joined_sides, (2, 200), (2, 57), 1)
        self.refused(TooLarge, joined_sides, (0, 300), (0, 213), 1)

    def test_order_of_refusals(self):
        self.refused(Unlike, joined_sides, (300,), (300, 1), 5)
        self.refused(NoSide, joined_sides, (300,), (300,), 1)
        self.refused(NoSide, joined_sides, (2, 200), (3, 100), 2)
        self.refused(Unlike, joined_sides, (1, 300), (2, 256), 1)
        self.refused(Unlike, joined_sides, (512, 1), (256, 2), 0)


class Pairing(Rules):
    def test_paired(self):
        for sides in SHAPES:
            for many in range(len(sides) + 1):
                self.told(sides, paired_sides, sides, sides[:many])
                self.told(sides, paired_sides, sides[:many], sides)

    def test_unlike(self):
        for sides, others in (((2,), (3,)), ((2,), (3, 2)), ((2, 3), (3,)), ((2, 3), (3, 2)), ((2, 3), (2, 4)),
                              ((2, 3), (2, 4, 3)), ((0,), (1,)), ((0,), (1, 0)), ((1,), (2,)), ((2, 3, 4), (2, 4)),
                              ((2, 3, 4), (3, 4)), ((2, 3, 4), (4,)), ((2, 3, 4), (2, 3, 5)), ((1, 2), (2,))):
            self.refused(Unlike, paired_sides, sides, others)
            self.refused(Unlike, paired_sides, others, sides)

    def test_picked(self):
        parts = ((), (2,), (2, 3), (2, 3, 4), (2, 3, 4, 5, 1, 1))
        for three in itertools.product(parts, repeat=3):
            self.told(max(three, key=len), picked_sides, *three)
        self.told((0, 2), picked_sides, (0,), (), (0, 2))
        self.told((), picked_sides, (), (), ())

    def test_picked_two_by_two(self):
        parts = ((), (2,), (3,), (2, 3), (2, 4), (3, 2), (2, 3, 4), (2, 4, 4))

        def fit(one, two):
            many = min(len(one), len(two))
            return one[:many] == two[:many]

        for three in itertools.product(parts, repeat=3):
            good = all([fit(one, two) for one, two in itertools.combinations(three, 2)])
            self.assertEqual(outcome(picked_sides, *three), max(three, key=len) if good else Unlike)


class Fetching(Rules):
    def test_fetched(self):
        self.told((), fetched_sides, (5,), ())
        self.told((3,), fetched_sides, (5,), (3,))
        self.told((2, 3), fetched_sides, (5,), (2, 3))
        self.told((4,), fetched_sides, (5, 4), ())
        self.told((3, 4), fetched_sides, (5, 4), (3,))
        self.told((6, 7, 3, 4), fetched_sides, (5, 3, 4), (6, 7))
        self.told((0, 4), fetched_sides, (5, 4), (0,))
        self.told((3, 0), fetched_sides, (5, 0), (3,))
        self.told((1,) * 6, fetched_sides, (512, 1, 1), (1, 1, 1, 1))
        self.told((512,), fetched_sides, (2,), (512,))
        self.told((32, 16), fetched_sides, (3, 16), (32,))

    def test_no_side(self):
        for others in ((), (0,), (3,), (512,), (1,) * 6):
            self.refused(NoSide, fetched_sides, (), others)

    def test_beyond_goes_ahead_of_too_large(self):
        for others in ((), (0,), (3,), (512,), (1,) * 6):
            for sides in ((0,), (0, 2), (0, 0), (0, 1, 1, 1, 1, 1), (0, 512)):
                self.refused(Beyond, fetched_sides, sides, others)

    def test_too_large(self):
        for sides, others in (((1, 1), (1,) * 6), ((1, 1, 1, 1), (1,) * 4), ((1, 1), (0,) * 6), ((1, 2), (257,)),
                              ((2, 27), (19,)), ((1, 512), (0, 2)), ((1, 0, 2), (257,))):
            self.refused(TooLarge, fetched_sides, sides, others)


if __name__ == "__main__":
    unittest.main()
