"""Points 3.1 to 3.6 and the interface's part sideloom/views.py."""

import itertools
import unittest

from common import GREAT, SHAPES, SIDE_NUMBERS, Refusing, looked_up, made, mixed, outcome, sample, spots
from sideloom.errors import Beyond, NoPlace, NoSide, TooLarge, Unlike
from sideloom.lifting import lead
from sideloom.moves import cut, flip, spread, turn
from sideloom.rules import cut_sides, flipped_sides, folded_sides, spread_sides, turned_sides
from sideloom.views import (
    cut_view, flipped_view, inner_view, led_view, plain_view, seen_through, span_of, spot_of, spread_view,
    turned_view)

# Views of all sorts, with strides of nought and below nought, and starts below nought.
OUTER = (
    ((), 0, ()), ((), -5, ()), ((4,), 3, (2,)), ((4,), 0, (0,)), ((4,), -9, (-2,)), ((0,), 7, (5,)),
    ((2, 3), 10, (-3, 1)), ((2, 3), 0, (0, 0)), ((2, 0), 4, (7, -7)), ((2, 3, 4), -100, (50, 0, -7)),
    ((1, 2, 1, 3, 1, 2), 5, (11, -13, 17, 19, -23, 29)), ((512,), GREAT, (GREAT,)),
)
# The same with inner strides behind.
INNER = tuple([(sides, start, strides + more) for sides, start, strides in OUTER[:-1]
               for more in ((6,), (0, -4), (5, 5, 9))])
VIEWS = OUTER + INNER + tuple([plain_view(sides) for sides in SHAPES])
# What is put for the inner coordinates: nothing is asked of these.
INNER_AT = (3, -2, 1000)


def inner_many(view):
    return len(view[2]) - len(view[0])


class Views(Refusing):
    def told(self, answer, function, *args):
        found = function(*args)
        self.assertEqual(found, answer)
        self.assertIs(type(found), tuple)
        self.assertIs(type(found[0]), tuple)
        self.assertIs(type(found[2]), tuple)

    def same_spots(self, new, old, source):
        """Each spot of the new view is the old one's at the coordinates that source tells."""
        self.assertEqual(inner_many(new), inner_many(old))
        inner = INNER_AT[:inner_many(old)]
        for at in spots(new[0]):
            self.assertEqual(spot_of(new, at + inner), spot_of(old, source(at) + inner))


class Plain(Views):
    def test_views(self):
        self.told(((), 0, ()), plain_view, ())
        self.told(((5,), 0, (1,)), plain_view, (5,))
        self.told(((2, 3), 0, (3, 1)), plain_view, (2, 3))
        self.told(((2, 3, 4), 0, (12, 4, 1)), plain_view, (2, 3, 4))
        self.told(((2, 0, 3), 0, (0, 3, 1)), plain_view, (2, 0, 3))

    def test_any_sides(self):
        self.told(((1000, 1000, 7), 0, (7000, 7, 1)), plain_view, (1000, 1000, 7))
        self.told(((2, GREAT, 3), 0, (3 * GREAT, 3, 1)), plain_view, (2, GREAT, 3))
        self.told(((2,) * 9, 0, (256, 128, 64, 32, 16, 8, 4, 2, 1)), plain_view, (2,) * 9)


class Turned(Views):
    def test_views(self):
        self.told(((), 4, ()), turned_view, ((), 4, ()), ())
        self.told(((3, 2), 10, (1, -3)), turned_view, ((2, 3), 10, (-3, 1)), (1, 0))
        self.told(((4, 2, 3), 1, (9, 7, 8)), turned_view, ((2, 3, 4), 1, (7, 8, 9)), (2, 0, 1))
        self.told(((3, 4, 2), 1, (8, 9, 7)), turned_view, ((2, 3, 4), 1, (7, 8, 9)), (1, 2, 0))

    def test_inner_strides_stay(self):
        self.told(((), 4, (5, 6)), turned_view, ((), 4, (5, 6)), ())
        self.told(((3, 2), 10, (1, -3, 40, 50)), turned_view, ((2, 3), 10, (-3, 1, 40, 50)), (1, 0))

    def test_spots(self):
        for view in VIEWS:
            for order in list(itertools.permutations(range(len(view[0]))))[:30]:
                new = turned_view(view, order)
                self.assertEqual(new[0], turned_sides(view[0], order))
                self.same_spots(new, view, lambda at: tuple([at[order.index(k)] for k in range(len(order))]))

    def test_refusals(self):
        for view in VIEWS:
            many = len(view[0])
            right = tuple(range(many))
            for order in (right + (many,), right + (0,), right[:-1] + (many,), right[1:] + (-1,), right + (GREAT,),
                          right[:-1] + (0,) if many > 1 else (1,)):
                self.refused(NoSide, turned_view, view, order)
            if many > 0:
                self.refused(NoSide, turned_view, view, ())

    def test_inner_strides_are_no_sides(self):
        self.refused(NoSide, turned_view, ((2,), 0, (1, 5)), (1, 0))
        self.refused(NoSide, turned_view, ((), 0, (5,)), (0,))


class Flipped(Views):
    def test_views(self):
        self.told(((4,), 3, (-1,)), flipped_view, ((4,), 0, (1,)), 0)
        self.told(((4,), 0, (1,)), flipped_view, ((4,), 3, (-1,)), 0)
        self.told(((2, 3), 13, (3, 1)), flipped_view, ((2, 3), 16, (-3, 1)), 0)
        self.told(((2, 3), 18, (-3, -1)), flipped_view, ((2, 3), 16, (-3, 1)), 1)
        self.told(((1,), 5, (-9,)), flipped_view, ((1,), 5, (9,)), 0)
        self.told(((4,), 5, (0,)), flipped_view, ((4,), 5, (0,)), 0)

    def test_a_side_of_nought(self):
        self.told(((0,), 2, (-5,)), flipped_view, ((0,), 7, (5,)), 0)
        self.told(((0,), 12, (5,)), flipped_view, ((0,), 7, (-5,)), 0)
        self.told(((2, 0), 11, (7, 7)), flipped_view, ((2, 0), 4, (7, -7)), 1)
        self.told(((2, 0), 11, (-7, -7)), flipped_view, ((2, 0), 4, (7, -7)), 0)

    def test_inner_strides_stay(self):
        self.told(((4,), 9, (-3, 8, -8)), flipped_view, ((4,), 0, (3, 8, -8)), 0)

    def test_spots(self):
        for view in VIEWS:
            for side, length in enumerate(view[0]):
                new = flipped_view(view, side)
                self.assertEqual(new[0], view[0])
                self.same_spots(new, view, lambda at: at[:side] + (length - 1 - at[side],) + at[side + 1:])
                self.assertEqual(flipped_view(new, side), view)


class Cut(Views):
    def test_views(self):
        self.told(((2,), 1, (1,)), cut_view, ((4,), 0, (1,)), 0, 1, 2, 1)
        self.told(((2,), 1, (2,)), cut_view, ((4,), 0, (1,)), 0, 1, 2, 2)
        self.told(((2, 2), 16, (-3, 2)), cut_view, ((2, 3), 16, (-3, 1)), 1, 0, 2, 2)
        self.told(((1, 3), 13, (-30, 1)), cut_view, ((2, 3), 16, (-3, 1)), 0, 1, 1, 10)
        self.told(((4,), 0, (1,)), cut_view, ((4,), 0, (1,)), 0, 0, 4, 1)

    def test_many_of_nought(self):
        self.told(((0,), 1, (1,)), cut_view, ((4,), 0, (1,)), 0, 1, 0, 1)
        self.told(((0,), 3 + 2 * GREAT, (2 * GREAT,)), cut_view, ((4,), 3, (2,)), 0, GREAT, 0, GREAT)
        self.told(((0, 3), 16 - 3 * 9, (-6, 1)), cut_view, ((2, 3), 16, (-3, 1)), 0, 9, 0, 2)
        self.told(((0,), 17, (10,)), cut_view, ((0,), 7, (5,)), 0, 2, 0, 2)

    def test_inner_strides_stay(self):
        self.told(((2,), 3, (6, 8, -8)), cut_view, ((4,), 0, (3, 8, -8)), 0, 1, 2, 2)

    def test_spots(self):
        for view in VIEWS:
            for side in range(len(view[0])):
                for first, many, step in ((0, 0, 1), (0, 1, 1), (1, 1, 3), (0, 2, 1), (0, 2, 2), (1, 2, 2), (2, 0, 3)):
                    sides = outcome(cut_sides, view[0], side, first, many, step)
                    if sides == Beyond:
                        continue
                    new = cut_view(view, side, first, many, step)
                    self.assertEqual(new[0], sides)
                    self.same_spots(new, view, lambda at: at[:side] + (first + at[side] * step,) + at[side + 1:])


class Spread(Views):
    def test_views(self):
        self.told(((3,), 4, (0,)), spread_view, ((), 4, ()), 0, 3)
        self.told(((5, 2, 3), 16, (0, -3, 1)), spread_view, ((2, 3), 16, (-3, 1)), 0, 5)
        self.told(((2, 5, 3), 16, (-3, 0, 1)), spread_view, ((2, 3), 16, (-3, 1)), 1, 5)
        self.told(((2, 3, 5), 16, (-3, 1, 0)), spread_view, ((2, 3), 16, (-3, 1)), 2, 5)
        self.told(((2, 0, 3), 16, (-3, 0, 1)), spread_view, ((2, 3), 16, (-3, 1)), 1, 0)

    def test_inner_strides_stay(self):
        self.told(((3,), 4, (0, 8, -8)), spread_view, ((), 4, (8, -8)), 0, 3)
        self.told(((2, 5), 16, (-3, 0, 8)), spread_view, ((2,), 16, (-3, 8)), 1, 5)
        self.told(((5, 2), 16, (0, -3, 8)), spread_view, ((2,), 16, (-3, 8)), 0, 5)

    def test_spots(self):
        for view in VIEWS:
            for side in range(len(view[0]) + 1):
                for many in (0, 1, 2):
                    sides = outcome(spread_sides, view[0], side, many)
                    if sides == TooLarge:
                        continue
                    new = spread_view(view, side, many)
                    self.assertEqual(new[0], sides)
                    self.same_spots(new, view, lambda at: at[:side] + at[side + 1:])


class Led(Views):
    def test_views(self):
        self.told(((), 4, ()), led_view, ((), 4, ()), ())
        self.told(((2, 3), 4, (0, 0)), led_view, ((), 4, ()), (2, 3))
        self.told(((2, 3), 16, (-3, 0)), led_view, ((2,), 16, (-3,)), (2, 3))
        self.told(((2, 3, 4), 16, (-3, 1, 0)), led_view, ((2, 3), 16, (-3, 1)), (2, 3, 4))
        self.told(((2, 3), 16, (-3, 1)), led_view, ((2, 3), 16, (-3, 1)), (2, 3))
        self.told(((0, 3), 16, (-3, 0)), led_view, ((0,), 16, (-3,)), (0, 3))

    def test_inner_strides_stay(self):
        self.told(((2, 3), 4, (0, 0, 8, -8)), led_view, ((), 4, (8, -8)), (2, 3))
        self.told(((2, 3), 16, (-3, 0, 8)), led_view, ((2,), 16, (-3, 8)), (2, 3))
        self.told(((2,), 16, (-3, 8)), led_view, ((2,), 16, (-3, 8)), (2,))

    def test_spots(self):
        for view in VIEWS:
            many = len(view[0])
            for more in ((), (1,), (3,), (0,), (2, 2), (1, 0)):
                if many + len(more) <= 6:
                    sides = view[0] + more
                    new = led_view(view, sides)
                    self.assertEqual(new[0], sides)
                    self.same_spots(new, view, lambda at: at[:many])

    def test_no_beginning(self):
        for view, sides in ((((2,), 0, (1,)), ()), (((2,), 0, (1,)), (3,)), (((2,), 0, (1,)), (3, 2)),
                            (((2, 3), 0, (3, 1)), (2,)), (((2, 3), 0, (3, 1)), (3, 2)),
                            (((2, 3), 0, (3, 1)), (2, 4, 3)), (((0,), 0, (1,)), ()), (((0,), 0, (1,)), (1,)),
                            (((2,), 0, (1, 1)), (3,)), (((2,), 0, (1, 3)), ())):
            self.refused(Unlike, led_view, view, sides)


class MadeInner(Views):
    def test_views(self):
        self.told(((), 4, (9,)), inner_view, ((5,), 4, (9,)), 0)
        self.told(((3,), 16, (1, -3)), inner_view, ((2, 3), 16, (-3, 1)), 0)
        self.told(((2,), 16, (-3, 1)), inner_view, ((2, 3), 16, (-3, 1)), 1)
        self.told(((2, 4), 0, (7, 9, 8)), inner_view, ((2, 3, 4), 0, (7, 8, 9)), 1)
        self.told(((2,), 4, (7, -7)), inner_view, ((2, 0), 4, (7, -7)), 1)

    def test_the_first_of_the_inner_strides(self):
        self.told(((), 4, (9, 5, 6)), inner_view, ((5,), 4, (9, 5, 6)), 0)
        self.told(((3, 4), 0, (8, 9, 7, 5, 6)), inner_view, ((2, 3, 4), 0, (7, 8, 9, 5, 6)), 0)
        twice = inner_view(inner_view(((2, 3, 4), 1, (7, 8, 9)), 0), 1)
        self.assertEqual(twice, ((3,), 1, (8, 9, 7)))
        self.assertEqual(inner_view(twice, 0), ((), 1, (8, 9, 7)))

    def test_spots(self):
        for view in VIEWS:
            inner = INNER_AT[:inner_many(view)]
            for side in range(len(view[0])):
                new = inner_view(view, side)
                self.assertEqual(new[0], folded_sides(view[0], side))
                self.assertEqual(inner_many(new), inner_many(view) + 1)
                for at in spots(view[0]):
                    others = at[:side] + at[side + 1:]
                    self.assertEqual(spot_of(new, others + (at[side],) + inner), spot_of(view, at + inner))

    def test_changed_behind_that(self):
        # The cells at (i, k, j) of a table of the sides 2, 3, 4, with k made inner.
        view = inner_view(plain_view((2, 3, 4)), 1)
        self.assertEqual(view, ((2, 4), 0, (12, 1, 4)))
        self.assertEqual(turned_view(view, (1, 0)), ((4, 2), 0, (1, 12, 4)))
        self.assertEqual(flipped_view(view, 1), ((2, 4), 3, (12, -1, 4)))
        self.assertEqual(cut_view(view, 1, 1, 2, 2), ((2, 2), 1, (12, 2, 4)))
        self.assertEqual(spread_view(view, 2, 5), ((2, 4, 5), 0, (12, 1, 0, 4)))
        self.assertEqual(led_view(view, (2, 4, 5)), ((2, 4, 5), 0, (12, 1, 0, 4)))
        self.assertEqual(inner_view(view, 0), ((4,), 0, (1, 12, 4)))

    def test_no_side(self):
        for view in VIEWS:
            for side in SIDE_NUMBERS + (len(view[0]), len(view[2])):
                if not 0 <= side < len(view[0]):
                    self.refused(NoSide, inner_view, view, side)


class AsTheRules(Views):
    def same_refusal(self, rule, function, *args):
        found = outcome(function, *args)
        if isinstance(rule, tuple):
            self.assertEqual(found[0], rule)
        else:
            self.assertIs(found, rule)

    def test_sides_of_all_sorts(self):
        for view in VIEWS:
            for side in SIDE_NUMBERS:
                self.same_refusal(outcome(flipped_sides, view[0], side), flipped_view, view, side)
                self.same_refusal(outcome(folded_sides, view[0], side), inner_view, view, side)
                for many in (-GREAT, -1, 0, 1, 2, 64, 512, 513, GREAT):
                    self.same_refusal(outcome(spread_sides, view[0], side, many), spread_view, view, side, many)
                for args in ((0, 1, 1), (0, 0, 1), (1, 2, 1), (-1, 1, 1), (0, -1, 1), (0, 1, 0), (GREAT, 0, 1),
                             (0, GREAT, 1), (2, 2, 2)):
                    self.same_refusal(outcome(cut_sides, view[0], side, *args), cut_view, view, side, *args)

    def test_order_of_refusals(self):
        view = ((2, 3), 16, (-3, 1, 4))
        self.refused(NoSide, cut_view, view, 2, -1, 1, 1)
        self.refused(NoSide, cut_view, view, -1, 0, 9, 1)
        self.refused(Beyond, cut_view, view, 1, 0, 4, 1)
        self.refused(NoSide, spread_view, view, 3, -1)
        self.refused(NoSide, spread_view, view, -1, GREAT)
        self.refused(Beyond, spread_view, ((1,) * 6, 0, (1,) * 6), 6, -1)
        self.refused(TooLarge, spread_view, ((1,) * 6, 0, (1,) * 6), 6, 1)
        self.refused(TooLarge, spread_view, view, 2, 86)


class Spots(Views):
    def test_spots(self):
        self.assertEqual(spot_of(((), 7, ()), ()), 7)
        self.assertEqual(spot_of(((), -7, ()), ()), -7)
        self.assertEqual(spot_of(((4,), 3, (2,)), (3,)), 9)
        self.assertEqual(spot_of(((4,), 3, (-2,)), (3,)), -3)
        self.assertEqual(spot_of(((4,), 3, (0,)), (3,)), 3)
        self.assertEqual(spot_of(((2, 3), 10, (-30, 1)), (1, 2)), -18)
        self.assertEqual(spot_of(((2, 3), 10, (-30, 1)), (0, 1)), 11)

    def test_inner_coordinates(self):
        view = ((2,), 10, (5, 100, -1000))
        self.assertEqual(spot_of(view, (1, 2, 3)), 10 + 5 + 200 - 3000)
        self.assertEqual(spot_of(view, (0, -2, 0)), 10 - 200)
        self.assertEqual(spot_of(view, (1, GREAT, -GREAT)), 15 + 1100 * GREAT)
        self.assertEqual(spot_of(((), 1, (5,)), (-7,)), -34)

    def test_any_sides(self):
        self.assertEqual(spot_of(((GREAT, 3), 1, (2, 3)), (GREAT - 1, 2)), 2 * GREAT + 5)
        self.assertEqual(spot_of(plain_view((2,) * 9), (1,) * 9), 511)
        self.assertEqual(spot_of(plain_view((1000, 1000)), (999, 999)), 999999)

    def test_the_plain_view_tells_places(self):
        for sides in SHAPES:
            found = [spot_of(plain_view(sides), at) for at in spots(sides)]
            self.assertEqual(found, list(range(len(found))))

    def test_too_many_or_too_few(self):
        for view, at in ((((), 0, ()), (0,)), (((4,), 0, (1,)), ()), (((4,), 0, (1,)), (0, 0)),
                         (((4,), 0, (1, 5)), (0,)), (((4,), 0, (1, 5)), (0, 0, 0)), (((), 0, (5,)), ()),
                         (((), 0, (5,)), (0, 0)), (((2, 3), 0, (3, 1)), (1,)), (((2, 3), 0, (3, 1)), (1, 1, 0)),
                         (((2, 3), 0, (3, 1, 9)), (1, 1)), (((0,), 0, (1,)), ())):
            self.refused(NoPlace, spot_of, view, at)

    def test_outside(self):
        for view, at in ((((4,), 0, (1,)), (-1,)), (((4,), 0, (1,)), (4,)), (((4,), 0, (1,)), (GREAT,)),
                         (((4,), 0, (1,)), (-GREAT,)), (((2, 3), 0, (3, 1)), (2, 0)), (((2, 3), 0, (3, 1)), (0, 3)),
                         (((2, 3), 0, (3, 1)), (0, -1)), (((2, 3), 0, (3, 1)), (-1, 0)), (((0,), 0, (1,)), (0,)),
                         (((2, 0), 0, (1, 1)), (1, 0)), (((2, 3), 0, (3, 1, 9)), (1, 3, 0)),
                         (((2, 3), 0, (3, 1, 9)), (-1, 0, 0)), (((4,), 0, (0,)), (4,))):
            self.refused(NoPlace, spot_of, view, at)


class Spans(Views):
    def test_spans(self):
        self.assertEqual(span_of(((), 7, ())), (7, 7))
        self.assertEqual(span_of(((), -7, ())), (-7, -7))
        self.assertEqual(span_of(((4,), 3, (2,))), (3, 9))
        self.assertEqual(span_of(((4,), 3, (-2,))), (-3, 3))
        self.assertEqual(span_of(((4,), 3, (0,))), (3, 3))
        self.assertEqual(span_of(((1,), 3, (99,))), (3, 3))
        self.assertEqual(span_of(((2, 3), 10, (-30, 1))), (-20, 12))
        self.assertEqual(span_of(((2, 3), 10, (-30, -1))), (-22, 10))
        self.assertIs(type(span_of(((2, 3), 10, (-30, 1)))), tuple)

    def test_none_where_there_are_no_cells(self):
        for view in (((0,), 7, (5,)), ((2, 0), 4, (7, -7)), ((0, GREAT), -1, (1, 1)), ((3, 0, 2), 0, (0, 0, 0))):
            self.assertIsNone(span_of(view))

    def test_all_views(self):
        for view in OUTER + tuple([plain_view(sides) for sides in SHAPES]):
            found = [view[1] + sum([c * stride for c, stride in zip(at, view[2])]) for at in spots(view[0])]
            self.assertEqual(span_of(view), (min(found), max(found)) if found else None)

    def test_any_sides(self):
        self.assertEqual(span_of(plain_view((GREAT, 7))), (0, 7 * GREAT - 1))
        self.assertEqual(span_of(plain_view((3,) * 20)), (0, 3**20 - 1))
        self.assertEqual(span_of(((GREAT, 10**9), 0, (-1, 1))), (1 - GREAT, 10**9 - 1))


class Seen(Refusing):
    def told(self, answer, function, *args):
        found = function(*args)
        self.assertEqual(found, answer)
        self.assertIs(type(found), tuple)
        self.assertIs(type(found[0]), tuple)
        self.assertIs(type(found[1]), tuple)

    def test_cells(self):
        row = (10, 20, 30, 40, 50, 60)
        for cells in (row, list(row)):
            self.told(((), (30,)), seen_through, ((), 2, ()), cells)
            self.told(((3,), (10, 20, 30)), seen_through, ((3,), 0, (1,)), cells)
            self.told(((3,), (20, 40, 60)), seen_through, ((3,), 1, (2,)), cells)
            self.told(((3,), (60, 50, 40)), seen_through, ((3,), 5, (-1,)), cells)
            self.told(((3,), (20, 20, 20)), seen_through, ((3,), 1, (0,)), cells)
            self.told(((2, 3), row), seen_through, ((2, 3), 0, (3, 1)), cells)
            self.told(((3, 2), (10, 40, 20, 50, 30, 60)), seen_through, ((3, 2), 0, (1, 3)), cells)
            self.told(((2, 2), (60, 50, 30, 20)), seen_through, ((2, 2), 5, (-3, -1)), cells)

    def test_what_is_handed_in_is_not_changed_nor_kept(self):
        cells = [10, 20, 30]
        tab = seen_through(((2,), 2, (-1,)), cells)
        self.assertEqual(cells, [10, 20, 30])
        cells[2] = 99
        self.assertEqual(tab, ((2,), (30, 20)))

    def test_just_long_enough(self):
        row = tuple(range(100, 120))
        self.told(((4,), (103, 105, 107, 109)), seen_through, ((4,), 3, (2,)), row[:10])
        self.refused(Beyond, seen_through, ((4,), 3, (2,)), row[:9])
        self.told(((4,), (106, 104, 102, 100)), seen_through, ((4,), 6, (-2,)), row[:7])
        self.refused(Beyond, seen_through, ((4,), 6, (-2,)), row[:6])
        self.refused(Beyond, seen_through, ((4,), 5, (-2,)), row)
        self.refused(Beyond, seen_through, ((4,), 5, (-2,)), list(row))
        self.told(((), (100,)), seen_through, ((), 0, ()), (100,))
        self.refused(Beyond, seen_through, ((), 0, ()), ())
        self.refused(Beyond, seen_through, ((), 1, ()), (100,))
        self.told(((2, 3), tuple(range(100, 106))), seen_through, plain_view((2, 3)), row[:6])
        self.refused(Beyond, seen_through, plain_view((2, 3)), row[:5])
        self.refused(Beyond, seen_through, ((2, 3), 1, (3, 1)), row[:6])

    def test_below_nought(self):
        row = tuple(range(100, 120))
        self.refused(Beyond, seen_through, ((), -1, ()), row)
        self.refused(Beyond, seen_through, ((1,), -20, (1,)), row)
        self.refused(Beyond, seen_through, ((3,), -1, (1,)), row)
        self.refused(Beyond, seen_through, ((3,), -GREAT, (GREAT,)), row)
        self.refused(Beyond, seen_through, ((2, 2), 3, (-5, 1)), row)

    def test_far_beyond(self):
        self.refused(Beyond, seen_through, ((), GREAT, ()), (1, 2))
        self.refused(Beyond, seen_through, ((2,), 0, (GREAT,)), (1, 2))
        self.refused(Beyond, seen_through, ((3, 1), 0, (-GREAT, 0)), (1, 2))

    def test_without_cells_no_spot_is_outside(self):
        for start in (0, -5, 99, GREAT, -GREAT):
            for cells in ((), [], (1, 2)):
                self.told(((0,), ()), seen_through, ((0,), start, (1,)), cells)
                self.told(((2, 0), ()), seen_through, ((2, 0), start, (5, -5)), cells)

    def test_one_row_asks_nothing_of_its_stride(self):
        self.told(((1,), (5,)), seen_through, ((1,), 0, (GREAT,)), (5,))

    def test_all_small_views(self):
        row = tuple(range(100, 110))
        for sides, start, one, two in itertools.product(((1, 2), (2, 2), (2, 0), (3, 2)), range(-3, 12), range(-3, 4),
                                                        range(-3, 4)):
            found = [start + at[0] * one + at[1] * two for at in spots(sides)]
            good = all([0 <= spot < 10 for spot in found])
            answer = (sides, tuple([row[spot] for spot in found])) if good else Beyond
            self.assertEqual(outcome(seen_through, (sides, start, (one, two)), row), answer)


class MovedAndSeen(unittest.TestCase):
    def seen_alike(self, tab, view, cells):
        self.assertEqual(seen_through(view, cells), tab)
        self.assertEqual(seen_through(view, list(cells)), tab)

    def test_plain(self):
        for sides in SHAPES:
            tab = mixed(sides)
            self.seen_alike(tab, plain_view(sides), tab[1])

    def test_each_way(self):
        for sides in SHAPES:
            tab = sample(sides)
            view = plain_view(sides)
            for order in list(itertools.permutations(range(len(sides))))[::7]:
                self.seen_alike(turn(tab, order), turned_view(view, order), tab[1])
            for side in range(len(sides)):
                self.seen_alike(flip(tab, side), flipped_view(view, side), tab[1])
                for args in ((0, 0, 1), (0, 1, 1), (1, 1, 2), (0, 2, 1), (0, 2, 2)):
                    if outcome(cut_sides, sides, side, *args) != Beyond:
                        self.seen_alike(cut(tab, side, *args), cut_view(view, side, *args), tab[1])
            for side in range(len(sides) + 1):
                for many in (0, 1, 2):
                    if outcome(spread_sides, sides, side, many) != TooLarge:
                        self.seen_alike(spread(tab, side, many), spread_view(view, side, many), tab[1])
            for more in ((), (1,), (0,), (2,), (2, 3)):
                if len(sides) + len(more) <= 6 and len(tab[1]) < 60:
                    self.seen_alike(lead(tab, sides + more), led_view(view, sides + more), tab[1])

    def test_one_way_behind_another(self):
        for sides in ((2, 3, 4), (4, 3, 2), (3, 3), (2, 0, 3), (5, 4)):
            many = len(sides)
            tab = sample(sides)
            cells = tab[1]
            view = plain_view(sides)
            for way in ("flip", "turn", "cut", "spread", "flip", "turn", "lead", "cut", "flip"):
                if way == "flip":
                    tab, view = flip(tab, many - 1), flipped_view(view, many - 1)
                if way == "turn":
                    order = tuple(range(1, len(tab[0]))) + (0,)
                    tab, view = turn(tab, order), turned_view(view, order)
                if way == "cut":
                    rows = (tab[0][0] + 1) // 2
                    tab, view = cut(tab, 0, 0, rows, 2), cut_view(view, 0, 0, rows, 2)
                if way == "spread":
                    tab, view = spread(tab, 1, 2), spread_view(view, 1, 2)
                if way == "lead":
                    longer = tab[0] + (2,)
                    tab, view = lead(tab, longer), led_view(view, longer)
                self.seen_alike(tab, view, cells)


class InnerAndSeen(unittest.TestCase):
    def test_the_inner_side_goes_along_its_stride(self):
        tab = sample((2, 3, 4))
        cells = looked_up(tab)
        view = inner_view(plain_view(tab[0]), 1)
        for k in range(3):
            answer = made((2, 4), lambda at: cells[(at[0], k, at[1])])
            found = made((2, 4), lambda at: tab[1][spot_of(view, at + (k,))])
            self.assertEqual(found, answer)


if __name__ == "__main__":
    unittest.main()
