"""Doings that move the cells of tables about and leave their numbers as they are."""

from sideloom.rules import cut_sides, flipped_sides, joined_sides, laid_sides, spread_sides, turned_sides
from sideloom.sides import changed_at, dropped_at
from sideloom.tables import cell_at, table_by


def turn(tab, order):
    """The sides in another order."""
    sides = turned_sides(tab[0], order)
    # Where each of the old sides stands among the new ones.
    places = [order.index(side) for side in range(len(order))]
    return table_by(sides, lambda at: cell_at(tab, tuple([at[place] for place in places])))


def flip(tab, side):
    """Backwards along a side."""
    sides = flipped_sides(tab[0], side)
    return table_by(sides, lambda at: cell_at(tab, changed_at(at, side, sides[side] - 1 - at[side])))


def cut(tab, side, first, many, step):
    """So many rows along a side, from the first one on, each so many steps behind the one ahead."""
    sides = cut_sides(tab[0], side, first, many, step)
    return table_by(sides, lambda at: cell_at(tab, changed_at(at, side, first + at[side] * step)))


def spread(tab, side, many):
    """A new side, along which all is alike."""
    sides = spread_sides(tab[0], side, many)
    return table_by(sides, lambda at: cell_at(tab, dropped_at(at, side)))


def lay(tab, sides):
    """The same cells in the same order with other sides."""
    return (laid_sides(tab[0], sides), tab[1])


def join(tab, other, side):
    """One behind the other along a side."""
    sides = joined_sides(tab[0], other[0], side)
    length = tab[0][side]

    def number_at(at):
        if at[side] < length:
            return cell_at(tab, at)
        return cell_at(other, changed_at(at, side, at[side] - length))

    return table_by(sides, number_at)
