"""Views: where the cells of a table stand in a flat row of cells, told without moving them."""

# A view is a triple of sides, start and strides. Strides behind the sides' own are inner ones.

from sideloom.errors import Beyond, NoPlace
from sideloom.rules import cut_sides, flipped_sides, folded_sides, led_sides, spread_sides, turned_sides
from sideloom.sides import added_at, amount, changed_at, dropped_at, strides_of
from sideloom.tables import table_by


def plain_view(sides):
    """The view of a table whose cells stand in the row as they are."""
    return (sides, 0, strides_of(sides))


def turned_view(view, order):
    """The view with its sides in another order."""
    sides = turned_sides(view[0], order)
    strides = view[2]
    own = tuple([strides[side] for side in order])
    return (sides, view[1], own + strides[len(sides):])


def flipped_view(view, side):
    """The view backwards along a side."""
    sides = flipped_sides(view[0], side)
    stride = view[2][side]
    start = view[1] + (sides[side] - 1) * stride
    return (sides, start, changed_at(view[2], side, -stride))


def cut_view(view, side, first, many, step):
    """The view of so many rows along a side, from the first one on, each so many steps behind the one ahead."""
    sides = cut_sides(view[0], side, first, many, step)
    stride = view[2][side]
    return (sides, view[1] + first * stride, changed_at(view[2], side, stride * step))


def spread_view(view, side, many):
    """The view with a new side, along which all is alike."""
    sides = spread_sides(view[0], side, many)
    return (sides, view[1], added_at(view[2], side, 0))


def led_view(view, sides):
    """The view led to longer sides, of which its own are a beginning."""
    led_sides(view[0], sides)
    own = len(view[0])
    strides = view[2]
    more = (0,) * (len(sides) - own)
    return (sides, view[1], strides[:own] + more + strides[own:])


def inner_view(view, side):
    """The view without a side, whose stride becomes the first of the inner ones."""
    sides = folded_sides(view[0], side)
    strides = view[2]
    return (sides, view[1], added_at(dropped_at(strides, side), len(sides), strides[side]))


def moved_view(step, view):
    """The view turned, flipped, cut or spread as a step of a program tells."""
    if step[0] == "turn":
        return turned_view(view, step[2])
    if step[0] == "flip":
        return flipped_view(view, step[2])
    if step[0] == "cut":
        return cut_view(view, step[2], step[3], step[4], step[5])
    return spread_view(view, step[2], step[3])


def spot_of(view, at):
    """Where in the row the cell at these coordinates stands."""
    if len(at) != len(view[2]):
        raise NoPlace("not as many coordinates as strides")
    # The sides come to an end ahead of the inner coordinates, of which nothing is asked.
    for side, coordinate in zip(view[0], at):
        if coordinate < 0 or coordinate >= side:
            raise NoPlace("a coordinate that is not within its side")
    return view[1] + sum([coordinate * stride for coordinate, stride in zip(at, view[2])])


def span_of(view):
    """The least and the greatest spot, or None where there is none."""
    if amount(view[0]) == 0:
        return None
    # Each side by itself reaches from nought to its last row, above or below.
    reaches = [(side - 1) * stride for side, stride in zip(view[0], view[2])]
    least = view[1] + sum([min(reach, 0) for reach in reaches])
    greatest = view[1] + sum([max(reach, 0) for reach in reaches])
    return (least, greatest)


def seen_through(view, cells):
    """The table whose cells are those at the view's spots in the row of cells."""
    span = span_of(view)
    if span is not None and (span[0] < 0 or span[1] >= len(cells)):
        raise Beyond("a spot outside of the row of cells")
    return table_by(view[0], lambda at: cells[spot_of(view, at)])
