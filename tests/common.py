"""What several tests need: refusals looked at closely, and tables made and read by other means than the package's."""

import itertools
import unittest

from sideloom.errors import LoomError

LEAST = -2**63
GREATEST = 2**63 - 1
# So great that Python would not even write it as figures.
GREAT = 10**5000

# Sides of all sorts: none to six of them, noughts, ones, a breadth of 512.
SHAPES = (
    (), (0,), (1,), (5,), (512,), (0, 0), (2, 3), (3, 2), (2, 0), (0, 2), (1, 1), (0, 512), (1, 1, 1), (2, 3, 4),
    (2, 0, 3), (3, 2, 0), (4, 1, 3), (8, 8, 8), (2, 3, 2, 2), (1, 2, 1, 3, 1), (1, 2, 1, 3, 1, 2),
    (2, 2, 2, 2, 2, 2), (2, 3, 0, 5, 0, 2), (4, 2, 4, 4, 2, 2),
)
# Numbers of sides: there, at the end, outside and far away.
SIDE_NUMBERS = (-GREAT, -7, -2, -1, 0, 1, 2, 3, 5, 6, 7, GREAT)


class Refusing(unittest.TestCase):
    def refused(self, kind, function, *args):
        with self.assertRaises(LoomError) as taken:
            function(*args)
        self.assertIs(type(taken.exception), kind)


def outcome(function, *args):
    """What a function gives, or the class of its refusal."""
    try:
        return function(*args)
    except LoomError as error:
        return type(error)


def spots(sides):
    """All coordinates, the last one going fastest."""
    return list(itertools.product(*[range(side) for side in sides]))


def made(sides, number_at):
    return (tuple(sides), tuple([number_at(at) for at in spots(sides)]))


def looked_up(tab):
    """A dict of a table's cells by their coordinates."""
    return dict(zip(spots(tab[0]), tab[1], strict=True))


def sample(sides, start=10):
    """A table in which no two cells are alike."""
    return made(sides, lambda at, numbers=itertools.count(start): next(numbers))


def mixed(sides):
    """A table of small and great numbers, noughts and both bounds."""
    numbers = itertools.cycle((0, 1, -1, GREATEST, LEAST, 7, -12, 0, 2**40 + 3, -2**62, 5))
    return made(sides, lambda at: next(numbers))
