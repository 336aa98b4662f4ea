"""What a cell looks at, told by sides alone, and which cells of inputs an answer's cell needs."""

from sideloom.checking import checked, step_sides
from sideloom.errors import NoPlace
from sideloom.forms import args_of
from sideloom.sides import at_of, changed_at, dropped_at, place_of
from sideloom.views import inner_view, moved_view, plain_view, spot_of


def places_along(sides, side, at, many):
    """The places of so many first cells along a side; at are the coordinates along the other sides."""
    view = inner_view(plain_view(sides), side)
    first = spot_of(view, at + (0,))
    stride = view[2][len(at)]
    return [first + k * stride for k in range(many)]


def joined_looks(step, sides, at):
    """What a cell of a join looks at."""
    side = step[3]
    length = sides[step[1]][side]
    if at[side] < length:
        return [(step[1], place_of(sides[step[1]], at))]
    return [(step[2], place_of(sides[step[2]], changed_at(at, side, at[side] - length)))]


def fetched_looks(step, sides, at):
    """What a cell of a fetch looks at: the row's number, and each row of which it may be."""
    asked = sides[step[2]]
    told_by = (step[2], place_of(asked, at[:len(asked)]))
    rows = places_along(sides[step[1]], 0, at[len(asked):], sides[step[1]][0])
    return [told_by] + [(step[1], place) for place in rows]


def put_together_looks(step, sides, at):
    """What a cell of a fold or a run looks at."""
    used = sides[step[2]]
    side = step[3]
    if step[0] == "fold":
        places = places_along(used, side, at, used[side])
    else:
        places = places_along(used, side, dropped_at(at, side), at[side] + 1)
    return [(step[2], place) for place in places]


def looks_in(step, sides, place):
    """What the cell at a place of a step looks at: sorted pairs of a step's number and a place there."""
    at = at_of(step_sides(step, sides), place)
    form = step[0]
    if form == "join":
        return joined_looks(step, sides, at)
    if form == "lay":
        return [(step[1], place)]
    if form in ("turn", "flip", "cut", "spread"):
        return [(step[1], spot_of(moved_view(step, plain_view(sides[step[1]])), at))]
    if form == "fetch":
        pairs = fetched_looks(step, sides, at)
    elif form in ("fold", "run"):
        pairs = put_together_looks(step, sides, at)
    else:
        # The cells of each, pair and pick belong to as many of the first coordinates as there are sides.
        used = args_of(step)
        pairs = [(number, place_of(sides[number], at[:len(sides[number])])) for number in used]
    return sorted(set(pairs))


def looks(program, k, place):
    """What the cell at a place of step k looks at."""
    sides = checked(program)
    if k < 0 or k >= len(sides):
        raise NoPlace("a step that is not there")
    return looks_in(program[0][k], sides, place)


def looked(program, out, place):
    """For each step the places of its cells that are looked at from a cell of an out."""
    sides = checked(program)
    if out < 0 or out >= len(program[1]):
        raise NoPlace("an out that is not there")
    last = program[1][out]
    marks = [{} for step in program[0]]
    marks[last][place] = True
    # Steps use earlier ones alone, so from the last one on all looks at a step are known when it comes.
    # A place that is no cell of the out is refused by the first look.
    for k in range(last, -1, -1):
        places = sorted(marks[k])
        for here in places:
            for number, there in looks_in(program[0][k], sides, here):
                marks[number][there] = True
    return tuple([tuple(sorted(mark)) for mark in marks])


def needed(program, out, place):
    """The cells of inputs that a cell of an out needs: sorted pairs of an input's number and a place there."""
    told = looked(program, out, place)
    ins = [k for k, step in enumerate(program[0]) if step[0] == "in"]
    pairs = []
    for number, k in enumerate(ins):
        pairs.extend([(number, there) for there in told[k]])
    return pairs
