"""Points 0.2, 0.6, 1.6 and the interface's part sideloom/sides.py."""

import itertools
import unittest

from common import GREAT, Refusing
from sideloom.errors import NoPlace, TooLarge
from sideloom.sides import all_at, allowed, amount, at_of, breadth, place_of, strides_of

SMALL = (
    (), (0,), (1,), (5,), (0, 0), (2, 3), (3, 2), (2, 0), (0, 2), (1, 1, 1), (2, 3, 4), (2, 0, 3), (4, 1, 3),
    (1, 2, 1, 3, 1, 2), (2, 2, 2, 2, 2, 2), (8, 8, 8), (512,), (1, 512), (2, 3, 0, 5, 0, 2),
)


class Counting(unittest.TestCase):
    def test_amount(self):
        told = {(): 1, (0,): 0, (1,): 1, (7,): 7, (2, 3): 6, (2, 3, 4): 24, (2, 0, 4): 0, (0, 0): 0,
                (2, 3, 1, 1, 2, 2): 24}
        for sides, answer in told.items():
            self.assertEqual(amount(sides), answer)

    def test_amount_of_any_sides(self):
        self.assertEqual(amount((2,) * 100), 2**100)
        self.assertEqual(amount((10**40, 10**40, 3)), 3 * 10**80)
        self.assertEqual(amount((GREAT, 0, GREAT)), 0)
        self.assertEqual(amount((GREAT, GREAT)), GREAT * GREAT)

    def test_breadth(self):
        told = {(): 1, (0,): 1, (1,): 1, (7,): 7, (2, 3): 6, (2, 0, 4): 8, (0, 0, 0): 1, (0, 512): 512,
                (3, 0, 0, 5): 15}
        for sides, answer in told.items():
            self.assertEqual(breadth(sides), answer)

    def test_breadth_of_any_sides(self):
        self.assertEqual(breadth((2,) * 100), 2**100)
        self.assertEqual(breadth((10**40, 0, 10**40)), 10**80)
        self.assertEqual(breadth((GREAT, 0, GREAT)), GREAT * GREAT)


class Allowing(Refusing):
    def test_allowed_sides_are_told_as_they_are(self):
        for sides in SMALL:
            self.assertEqual(allowed(sides), sides)
            self.assertIs(type(allowed(sides)), tuple)

    def test_six_sides_and_seven(self):
        for side in (0, 1):
            self.assertEqual(allowed((side,) * 6), (side,) * 6)
            self.refused(TooLarge, allowed, (side,) * 7)
        self.refused(TooLarge, allowed, (1,) * 100)

    def test_breadth_of_512_and_beyond(self):
        for sides in ((512,), (2, 256), (8, 8, 8), (16, 1, 32), (4, 2, 4, 4, 2, 2)):
            self.assertEqual(breadth(sides), 512)
            self.assertEqual(allowed(sides), sides)
        for sides in ((513,), (27, 19), (3, 9, 19), (1, 513, 1), (1000,), (23, 23), (2, 257)):
            self.refused(TooLarge, allowed, sides)

    def test_noughts_count_as_ones(self):
        for sides in ((0, 512), (512, 0), (8, 0, 8, 0, 8), (0, 0, 2, 256)):
            self.assertEqual(allowed(sides), sides)
        for sides in ((0, 513), (513, 0), (27, 0, 19), (0, 1000, 0)):
            self.refused(TooLarge, allowed, sides)

    def test_great_sides_are_refused(self):
        for sides in ((2**63,), (0, 2**64), (10**40, 1), (GREAT,), (0, GREAT), (GREAT,) * 7):
            self.refused(TooLarge, allowed, sides)


class Striding(unittest.TestCase):
    def test_strides(self):
        told = {(): (), (0,): (1,), (5,): (1,), (2, 3): (3, 1), (2, 3, 4): (12, 4, 1), (2, 0, 3): (0, 3, 1),
                (0, 2): (2, 1), (2, 0): (0, 1), (1, 2, 1, 3): (6, 3, 3, 1)}
        for sides, answer in told.items():
            self.assertEqual(strides_of(sides), answer)
            self.assertIs(type(strides_of(sides)), tuple)

    def test_strides_of_any_sides(self):
        self.assertEqual(strides_of((3, 10**40, 10**30)), (10**70, 10**30, 1))
        self.assertEqual(strides_of((3, GREAT, 7)), (7 * GREAT, 7, 1))
        self.assertEqual(strides_of((2,) * 50), tuple([2**k for k in range(49, -1, -1)]))


class Placing(Refusing):
    def test_places(self):
        self.assertEqual(place_of((), ()), 0)
        self.assertEqual(place_of((5,), (3,)), 3)
        self.assertEqual(place_of((2, 3), (1, 2)), 5)
        self.assertEqual(place_of((2, 3), (1, 0)), 3)
        self.assertEqual(place_of((2, 3, 4), (1, 2, 3)), 23)
        self.assertEqual(place_of((2, 3, 4), (1, 0, 2)), 14)

    def test_coordinates(self):
        self.assertEqual(at_of((), 0), ())
        self.assertEqual(at_of((5,), 3), (3,))
        self.assertEqual(at_of((2, 3), 5), (1, 2))
        self.assertEqual(at_of((2, 3, 4), 14), (1, 0, 2))
        self.assertIs(type(at_of((2, 3), 5)), tuple)

    def test_the_last_coordinate_goes_fastest(self):
        for sides in SMALL:
            rows = list(itertools.product(*[range(side) for side in sides]))
            self.assertEqual([place_of(sides, at) for at in rows], list(range(len(rows))))
            self.assertEqual([at_of(sides, place) for place in range(amount(sides))], rows)

    def test_any_sides(self):
        sides = (3, 10**40, 10**30)
        self.assertEqual(place_of(sides, (2, 5, 7)), 2 * 10**70 + 5 * 10**30 + 7)
        self.assertEqual(at_of(sides, 2 * 10**70 + 5 * 10**30 + 7), (2, 5, 7))
        self.assertEqual(at_of(sides, 3 * 10**70 - 1), (2, 10**40 - 1, 10**30 - 1))
        self.assertEqual(place_of((GREAT, 2), (GREAT - 1, 1)), 2 * GREAT - 1)
        self.assertEqual(at_of((GREAT, 2), 2 * GREAT - 1), (GREAT - 1, 1))
        self.assertEqual(at_of((2,) * 50, 2**49 + 1), (1,) + (0,) * 48 + (1,))

    def test_too_many_or_too_few_coordinates(self):
        for sides, at in (((), (0,)), ((5,), ()), ((5,), (0, 0)), ((2, 3), (1,)), ((2, 3), (1, 2, 0)),
                          ((1, 1), ()), ((0,), ()), ((GREAT,), (GREAT, GREAT))):
            self.refused(NoPlace, place_of, sides, at)

    def test_coordinates_outside_their_sides(self):
        for sides, at in (((5,), (-1,)), ((5,), (5,)), ((5,), (6,)), ((2, 3), (2, 0)), ((2, 3), (0, 3)),
                          ((2, 3), (-1, 2)), ((2, 3), (1, -1)), ((2, 3), (0, 4)), ((0,), (0,)), ((0,), (-1,)),
                          ((2, 0), (1, 0)), ((0, 2), (0, 1)), ((5,), (10**40,)), ((5,), (-GREAT,)),
                          ((5,), (GREAT,)), ((GREAT,), (GREAT,)), ((GREAT, 0), (1, 0))):
            self.refused(NoPlace, place_of, sides, at)

    def test_places_that_are_no_cells(self):
        for sides in SMALL + ((GREAT, 3), (GREAT, 0), (10**40, 2)):
            for place in (-1, -2, -GREAT, amount(sides), amount(sides) + 1, amount(sides) + GREAT):
                self.refused(NoPlace, at_of, sides, place)


class AllCoordinates(unittest.TestCase):
    def test_all_at(self):
        self.assertEqual(all_at(()), [()])
        self.assertEqual(all_at((0,)), [])
        self.assertEqual(all_at((2, 0, 3)), [])
        self.assertEqual(all_at((3,)), [(0,), (1,), (2,)])
        self.assertEqual(all_at((2, 3)), [(0, 0), (0, 1), (0, 2), (1, 0), (1, 1), (1, 2)])

    def test_all_at_tells_places_in_order(self):
        for sides in SMALL:
            self.assertEqual(all_at(sides), list(itertools.product(*[range(side) for side in sides])))

    def test_kinds(self):
        self.assertIs(type(all_at((2, 3))), list)
        for at in all_at((2, 3)):
            self.assertIs(type(at), tuple)

    def test_the_list_is_the_askers_own(self):
        first = all_at((2, 2))
        second = all_at((2, 2))
        first.clear()
        self.assertEqual(second, [(0, 0), (0, 1), (1, 0), (1, 1)])
        self.assertEqual(all_at((2, 2)), second)


if __name__ == "__main__":
    unittest.main()
