"""A side put together by a function of two numbers, to one cell or with all that comes out on the way."""

from sideloom.figures import neutral, twice
from sideloom.rules import ask_side, folded_sides
from sideloom.sides import added_at, strides_of
from sideloom.tables import cell_at, table_by


def fold(word, tab, side):
    """Each cell is what the function makes of all along the side, which goes."""
    begin = neutral(word)
    sides = folded_sides(tab[0], side)
    length = tab[0][side]

    def number_at(at):
        number = begin
        for k in range(length):
            number = twice(word, number, cell_at(tab, added_at(at, side, k)))
        return number

    return table_by(sides, number_at)


def run(word, tab, side):
    """Each cell is what the function makes of those along the side up to it."""
    begin = neutral(word)
    sides = tab[0]
    ask_side(sides, side)
    stride = strides_of(sides)[side]
    cells = []
    for place, cell in enumerate(tab[1]):
        # The one ahead along the side stands a stride ahead, so it is made already.
        is_first = place // stride % sides[side] == 0
        before = begin if is_first else cells[place - stride]
        cells.append(twice(word, before, cell))
    return (sides, tuple(cells))
