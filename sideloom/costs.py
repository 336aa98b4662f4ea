"""What a program costs, told ahead: rounds, calls and writings of loops, and the plain way's calls and cells."""

from sideloom.checking import checked
from sideloom.sides import amount
from sideloom.trees import calls_of


def loop_sides(loop):
    """The sides over whose coordinates the rounds of a loop go."""
    return loop[2] if loop[0] == "fill" else loop[3]


def rounds_of(loop):
    """How many rounds a loop has."""
    return amount(loop_sides(loop))


def loop_calls(loop):
    """How many functions all rounds of a loop call."""
    if loop[0] == "fill":
        return rounds_of(loop) * calls_of(loop[5])
    return rounds_of(loop) * loop[4] * (1 + calls_of(loop[7]))


def loop_writings(loop):
    """How many cells all rounds of a loop write."""
    if loop[0] == "fill":
        return rounds_of(loop)
    return rounds_of(loop) * loop[4]


def calls_told(weft):
    """How many functions all loops call."""
    return sum([loop_calls(loop) for loop in weft[1]])


def writings_told(weft):
    """How many cells all loops write."""
    return sum([loop_writings(loop) for loop in weft[1]])


def step_calls(step, own, sides):
    """How many functions the plain way calls for a step with its own sides."""
    if step[0] in ("each", "pair", "pick", "fetch"):
        return amount(own)
    if step[0] in ("fold", "run"):
        return amount(sides[step[2]])
    return 0


def plain_calls(program):
    """How many functions the plain way calls."""
    sides = checked(program)
    return sum([step_calls(step, own, sides) for step, own in zip(program[0], sides)])


def plain_cells(program):
    """How many cells the plain way makes: those of all tables but the inputs'."""
    sides = checked(program)
    return sum([amount(own) for step, own in zip(program[0], sides) if step[0] != "in"])
