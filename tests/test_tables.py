"""Points 0.2, 0.6, 1.6, 1.7, 1.8 and the interface's part sideloom/tables.py."""

import unittest

from common import GREAT, GREATEST, LEAST, SHAPES, Refusing, looked_up, made, mixed, sample, spots
from sideloom.errors import NoPlace, TooLarge, Unlike
from sideloom.sides import amount
from sideloom.tables import alone, cell_at, nested, table_of


class Making(Refusing):
    def test_tables_of_sides_and_cells(self):
        self.assertEqual(table_of((), (7,)), ((), (7,)))
        self.assertEqual(table_of((3,), (4, -5, 6)), ((3,), (4, -5, 6)))
        self.assertEqual(table_of((2, 2), (1, 2, 3, 4)), ((2, 2), (1, 2, 3, 4)))
        self.assertEqual(table_of((1, 2, 1, 2, 1, 1), (1, 2, 3, 4)), ((1, 2, 1, 2, 1, 1), (1, 2, 3, 4)))
        self.assertEqual(table_of((0,), ()), ((0,), ()))
        self.assertEqual(table_of((3, 0, 2), ()), ((3, 0, 2), ()))

    def test_all_sorts_of_sides(self):
        for sides in SHAPES:
            tab = sample(sides)
            self.assertEqual(table_of(sides, tab[1]), tab)
            self.assertEqual(table_of(sides, list(tab[1])), tab)

    def test_cells_as_a_list_and_as_a_tuple(self):
        cells = [3, 2**64 + 1, -1]
        for handed in (cells, tuple(cells)):
            tab = table_of((3,), handed)
            self.assertEqual(tab, ((3,), (3, 1, -1)))
            self.assertIs(type(tab), tuple)
            self.assertIs(type(tab[0]), tuple)
            self.assertIs(type(tab[1]), tuple)
        self.assertEqual(table_of((0,), []), ((0,), ()))
        self.assertIs(type(table_of((0,), [])[1]), tuple)

    def test_what_is_handed_in_is_not_changed_nor_kept(self):
        cells = [3, 2**64 + 1, -1]
        tab = table_of((3,), cells)
        self.assertEqual(cells, [3, 2**64 + 1, -1])
        cells[0] = 99
        cells.append(4)
        self.assertEqual(tab, ((3,), (3, 1, -1)))

    def test_cells_are_wrapped(self):
        self.assertEqual(table_of((4,), (LEAST, GREATEST, LEAST - 1, GREATEST + 1)),
                         ((4,), (LEAST, GREATEST, GREATEST, LEAST)))
        self.assertEqual(table_of((2, 2), [2**64, -2**64, 2**63, 3 * 2**64 - 5]), ((2, 2), (0, 0, LEAST, -5)))
        self.assertEqual(table_of((2,), [2**64 * GREAT + 6, -2**64 * GREAT - 6]), ((2,), (6, -6)))

    def test_sides_that_are_not_allowed(self):
        for sides, many in (((1,) * 7, 1), ((0,) * 7, 0), ((513,), 513), ((27, 19), 513), ((0, 513), 0),
                            ((23, 0, 23), 0), ((2, 257), 514), ((1,) * 30, 1)):
            self.refused(TooLarge, table_of, sides, (5,) * many)
            self.refused(TooLarge, table_of, sides, [5] * many)

    def test_not_as_many_cells_as_the_sides_tell(self):
        for sides in SHAPES:
            right = amount(sides)
            for many in (right - 1, right + 1, right + 7, 0, 1, 2 * right):
                if many >= 0 and many != right:
                    self.refused(Unlike, table_of, sides, (5,) * many)
                    self.refused(Unlike, table_of, sides, [5] * many)

    def test_too_large_goes_ahead_of_unlike(self):
        for sides in ((1,) * 7, (513,), (GREAT,), (0, GREAT), (GREAT, GREAT)):
            self.refused(TooLarge, table_of, sides, (1, 2))
            self.refused(TooLarge, table_of, sides, [])

    def test_alone(self):
        self.assertEqual(alone(7), ((), (7,)))
        self.assertEqual(alone(0), ((), (0,)))
        self.assertEqual(alone(LEAST), ((), (LEAST,)))
        self.assertEqual(alone(GREATEST), ((), (GREATEST,)))
        self.assertEqual(alone(GREATEST + 1), ((), (LEAST,)))
        self.assertEqual(alone(LEAST - 2), ((), (GREATEST - 1,)))
        self.assertEqual(alone(GREAT * 2**64 - 3), ((), (-3,)))


class CellsAt(Refusing):
    def test_cells(self):
        self.assertEqual(cell_at(((), (7,)), ()), 7)
        self.assertEqual(cell_at(((3,), (4, 5, 6)), (0,)), 4)
        self.assertEqual(cell_at(((3,), (4, 5, 6)), (2,)), 6)
        tab = ((2, 3), (10, 11, 12, 20, 21, 22))
        self.assertEqual(cell_at(tab, (0, 2)), 12)
        self.assertEqual(cell_at(tab, (1, 0)), 20)
        self.assertEqual(cell_at(tab, (1, 2)), 22)

    def test_cells_of_all_sorts_of_sides(self):
        for sides in SHAPES:
            tab = mixed(sides)
            for at, number in looked_up(tab).items():
                self.assertEqual(cell_at(tab, at), number)

    def test_no_place(self):
        for sides, ats in (
                ((), ((0,), (0, 0), (-1,))),
                ((3,), ((), (0, 0), (-1,), (3,), (4,), (GREAT,), (-GREAT,))),
                ((2, 3), ((), (1,), (1, 2, 0), (2, 0), (0, 3), (-1, 0), (0, -1), (1, -3), (-2, -3), (5, 5))),
                ((0,), ((), (0,), (-1,), (1,))),
                ((2, 0), ((0, 0), (1, 0), (1, -1), (1,))),
                ((1, 1, 1, 1, 1, 1), ((0,) * 5, (0,) * 7, (0, 0, 0, 0, 0, 1), (-1, 0, 0, 0, 0, 0)))):
            for at in ats:
                self.refused(NoPlace, cell_at, sample(sides), at)


class Nesting(unittest.TestCase):
    def test_a_number_for_no_sides(self):
        self.assertEqual(nested(((), (7,))), 7)
        self.assertIs(type(nested(((), (7,)))), int)

    def test_lists(self):
        self.assertEqual(nested(((3,), (4, 5, 6))), [4, 5, 6])
        self.assertEqual(nested(((2, 3), (1, 2, 3, 4, 5, 6))), [[1, 2, 3], [4, 5, 6]])
        self.assertEqual(nested(((3, 2), (1, 2, 3, 4, 5, 6))), [[1, 2], [3, 4], [5, 6]])
        self.assertEqual(nested(((2, 1, 2), (1, 2, 3, 4))), [[[1, 2]], [[3, 4]]])
        self.assertEqual(nested(((1,) * 6, (9,))), [[[[[[9]]]]]])

    def test_sides_of_nought(self):
        self.assertEqual(nested(((0,), ())), [])
        self.assertEqual(nested(((0, 3), ())), [])
        self.assertEqual(nested(((3, 0), ())), [[], [], []])
        self.assertEqual(nested(((2, 0, 3), ())), [[], []])
        self.assertEqual(nested(((2, 3, 0), ())), [[[], [], []], [[], [], []]])
        self.assertEqual(nested(((0, 0), ())), [])

    def test_all_sorts_of_sides(self):
        def by_hand(sides, cells, ahead):
            if len(ahead) == len(sides):
                return cells[ahead]
            return [by_hand(sides, cells, ahead + (k,)) for k in range(sides[len(ahead)])]

        for sides in SHAPES:
            tab = mixed(sides)
            self.assertEqual(nested(tab), by_hand(sides, looked_up(tab), ()))

    def test_every_list_is_one_of_its_own(self):
        def lists_in(value):
            if not isinstance(value, list):
                return []
            return [value] + [inner for part in value for inner in lists_in(part)]

        for sides in SHAPES:
            tab = sample(sides)
            first = nested(tab)
            found = lists_in(first) + lists_in(nested(tab))
            self.assertEqual(len(found), len(set([id(part) for part in found])))
            for part in lists_in(first):
                self.assertIs(type(part), list)

    def test_changing_one_list_changes_nothing_else(self):
        tab = ((2, 3, 0), ())
        first = nested(tab)
        first[0][0].append(5)
        first[1].clear()
        self.assertEqual(first, [[[5], [], []], []])
        self.assertEqual(nested(tab), [[[], [], []], [[], [], []]])
        self.assertEqual(tab, ((2, 3, 0), ()))
        again = ((2, 2), (1, 2, 3, 4))
        nested(again)[0][0] = 99
        self.assertEqual(nested(again), [[1, 2], [3, 4]])


class TheHelpersOfTheTests(unittest.TestCase):
    def test_they_say_what_the_document_says(self):
        self.assertEqual(spots((2, 2)), [(0, 0), (0, 1), (1, 0), (1, 1)])
        self.assertEqual(spots(()), [()])
        self.assertEqual(made((2, 2), lambda at: 10 * at[0] + at[1]), ((2, 2), (0, 1, 10, 11)))
        self.assertEqual(sample((3,)), ((3,), (10, 11, 12)))
        self.assertEqual(looked_up(((2,), (8, 9))), {(0,): 8, (1,): 9})


if __name__ == "__main__":
    unittest.main()
