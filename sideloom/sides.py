"""Sides of tables: how many cells they tell, and where each cell stands."""

# No refusal here spells out the numbers that it is about: they may be so great
# that Python would refuse to write them, with an error of its own.

from sideloom.errors import NoPlace, TooLarge

MOST_SIDES = 6
MOST_BREADTH = 512


def amount(sides):
    """How many cells a table of these sides has."""
    product = 1
    for side in sides:
        product = product * side
    return product


def breadth(sides):
    """The product of the sides, each nought taken as one."""
    return amount([side if side != 0 else 1 for side in sides])


def allowed(sides):
    """The sides as they are, where a table may have them."""
    if len(sides) > MOST_SIDES:
        raise TooLarge("too many sides")
    if breadth(sides) > MOST_BREADTH:
        raise TooLarge("too great a breadth")
    return sides


def strides_of(sides):
    """For each side the product of the sides behind it."""
    strides = []
    stride = 1
    for side in reversed(sides):
        strides.append(stride)
        stride = stride * side
    return tuple(reversed(strides))


def place_of(sides, at):
    """The place of the cell at these coordinates."""
    if len(at) != len(sides):
        raise NoPlace("not as many coordinates as sides")
    for side, coordinate in zip(sides, at):
        if coordinate < 0 or coordinate >= side:
            raise NoPlace("a coordinate that is not within its side")
    return sum([coordinate * stride for coordinate, stride in zip(at, strides_of(sides))])


def at_of(sides, place):
    """The coordinates of the cell at this place."""
    if place < 0 or place >= amount(sides):
        raise NoPlace("a place that is no cell's")
    at = []
    left = place
    for side in reversed(sides):
        at.append(left % side)
        left = left // side
    return tuple(reversed(at))


def all_at(sides):
    """A new list of all coordinates, in the order of their places."""
    return [at_of(sides, place) for place in range(amount(sides))]


def changed_at(row, k, number):
    """The row (sides, coordinates or strides) with another number in the place k."""
    return row[:k] + (number,) + row[k + 1:]


def added_at(row, k, number):
    """The row with one number more, which stands in the place k."""
    return row[:k] + (number,) + row[k:]


def dropped_at(row, k):
    """The row without the number in the place k."""
    return row[:k] + row[k + 1:]
