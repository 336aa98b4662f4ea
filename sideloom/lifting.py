"""Functions of numbers done to whole tables, and tables led to longer sides."""

from sideloom.figures import once, twice
from sideloom.rules import counted_sides, fetched_sides, led_sides, paired_sides, picked_sides
from sideloom.tables import cell_at, table_by


def lead(tab, sides):
    """The table led to longer sides, of which its own are a beginning."""
    many = len(tab[0])
    return table_by(led_sides(tab[0], sides), lambda at: cell_at(tab, at[:many]))


def each(word, tab):
    """A function of one number done to every cell."""
    # A table without cells would not ask for the word by itself.
    once(word, 0)
    return (tab[0], tuple([once(word, x) for x in tab[1]]))


def pair(word, tab, other):
    """A function of two numbers done to the cells that belong together."""
    # The word goes ahead of the sides, and a table without cells would not ask for it.
    twice(word, 0, 0)
    sides = paired_sides(tab[0], other[0])
    xs = lead(tab, sides)[1]
    ys = lead(other, sides)[1]
    return (sides, tuple([twice(word, x, y) for x, y in zip(xs, ys)]))


def pick(marks, tab, other):
    """The cell of tab where that of marks isn't nought, else that of other."""
    sides = picked_sides(marks[0], tab[0], other[0])
    asked = lead(marks, sides)[1]
    xs = lead(tab, sides)[1]
    ys = lead(other, sides)[1]
    return (sides, tuple([x if mark != 0 else y for mark, x, y in zip(asked, xs, ys)]))


def fetch(tab, other):
    """What stands in tab at the rows that the numbers of other tell, going round behind the last one."""
    sides = fetched_sides(tab[0], other[0])
    length = tab[0][0]
    many = len(other[0])

    def number_at(at):
        row = cell_at(other, at[:many]) % length
        return cell_at(tab, (row,) + at[many:])

    return table_by(sides, number_at)


def counted(sides, side):
    """The table of these sides whose cells are their own coordinates along a side."""
    return table_by(counted_sides(sides, side), lambda at: at[side])
