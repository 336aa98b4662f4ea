"""Tables: sides together with their cells."""

from sideloom.errors import Unlike
from sideloom.figures import wrapped
from sideloom.sides import all_at, allowed, amount, place_of, strides_of


def table_of(sides, cells):
    """The table of these sides and cells, each cell wrapped."""
    allowed(sides)
    if len(cells) != amount(sides):
        raise Unlike("not as many cells as the sides tell")
    return (sides, tuple([wrapped(cell) for cell in cells]))


def table_by(sides, number_at):
    """The table of these sides whose cells are what number_at gives for their coordinates."""
    return (sides, tuple([number_at(at) for at in all_at(sides)]))


def alone(n):
    """The table without sides whose cell is n."""
    return table_of((), (n,))


def cell_at(tab, at):
    """The number at these coordinates."""
    return tab[1][place_of(tab[0], at)]


def nested(tab):
    """A number for no sides, else a new list with one nested table for each row of the first side."""
    sides = tab[0]
    cells = tab[1]
    if len(sides) == 0:
        return cells[0]
    stride = strides_of(sides)[0]
    rows = [cells[row * stride:(row + 1) * stride] for row in range(sides[0])]
    return [nested((sides[1:], row)) for row in rows]
