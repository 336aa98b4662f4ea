"""The rules of what is done: for each doing the sides that come out, or what is refused."""

# No refusal here spells out the numbers that it is about: they may be so great
# that Python would refuse to write them, with an error of its own.

from sideloom.errors import Beyond, NoSide, Unlike
from sideloom.sides import added_at, allowed, amount, changed_at, dropped_at


def ask_side(sides, side):
    """Refuses a side that the sides don't have."""
    if side < 0 or side >= len(sides):
        raise NoSide("a side that is not there")


def turned_sides(sides, order):
    if sorted(order) != list(range(len(sides))):
        raise NoSide("an order that doesn't hold each side once")
    return tuple([sides[side] for side in order])


def flipped_sides(sides, side):
    ask_side(sides, side)
    return sides


def cut_sides(sides, side, first, many, step):
    ask_side(sides, side)
    if first < 0 or many < 0 or step < 1:
        raise Beyond("rows that can't be told so")
    if many > 0 and first + (many - 1) * step >= sides[side]:
        raise Beyond("rows beyond the side's last one")
    return changed_at(sides, side, many)


def spread_sides(sides, side, many):
    # The new side may stand behind all others, too.
    if side < 0 or side > len(sides):
        raise NoSide("no place for a new side")
    if many < 0:
        raise Beyond("a new side of a length below nought")
    return allowed(added_at(sides, side, many))


def laid_sides(sides, others):
    allowed(others)
    if amount(sides) != amount(others):
        raise Unlike("not as many cells as were there")
    return others


def joined_sides(sides, others, side):
    if len(sides) != len(others):
        raise Unlike("not as many sides in both")
    ask_side(sides, side)
    if dropped_at(sides, side) != dropped_at(others, side):
        raise Unlike("another side differs")
    return allowed(changed_at(sides, side, sides[side] + others[side]))


def led_sides(sides, others):
    """The others as they are, where the sides are a beginning of them."""
    if others[:len(sides)] != sides:
        raise Unlike("sides that are no beginning of the others")
    return others


def paired_sides(sides, others):
    if len(sides) > len(others):
        return led_sides(others, sides)
    return led_sides(sides, others)


def picked_sides(marks, sides, others):
    # Two beginnings of the same sides are a beginning of one another, so the third pair holds by itself.
    return paired_sides(paired_sides(marks, sides), others)


def fetched_sides(sides, others):
    if len(sides) == 0:
        raise NoSide("no side to fetch from")
    if sides[0] == 0:
        raise Beyond("a first side of nought to fetch from")
    return allowed(others + sides[1:])


def folded_sides(sides, side):
    ask_side(sides, side)
    return dropped_at(sides, side)


def counted_sides(sides, side):
    allowed(sides)
    ask_side(sides, side)
    return sides
