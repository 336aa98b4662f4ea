"""Shapes told ahead: the sides of each step's table, and the first fault of a program."""

from sideloom.errors import BadStep, Beyond, NoSide, NoWord, TooLarge, Unlike
from sideloom.figures import neutral, once, twice
from sideloom.forms import MOST_OUTS, MOST_STEPS, args_of
from sideloom.rules import counted_sides, cut_sides, fetched_sides, flipped_sides, folded_sides, joined_sides
from sideloom.rules import laid_sides, paired_sides, picked_sides, spread_sides, turned_sides
from sideloom.sides import allowed


def ask_word(step):
    """Refuses a word that names no function for a step of its form."""
    if step[0] == "each":
        once(step[1], 0)
    if step[0] == "pair":
        twice(step[1], 0, 0)
    if step[0] in ("fold", "run"):
        neutral(step[1])


def first_sides(step):
    """The sides of a step that uses no other one."""
    if step[0] == "in":
        return allowed(step[1])
    if step[0] == "count":
        return counted_sides(step[1], step[2])
    return ()


def moved_sides(step, sides):
    """The sides of a step that uses one with these sides."""
    form = step[0]
    if form == "turn":
        return turned_sides(sides, step[2])
    if form == "flip":
        return flipped_sides(sides, step[2])
    if form == "cut":
        return cut_sides(sides, step[2], step[3], step[4], step[5])
    if form == "spread":
        return spread_sides(sides, step[2], step[3])
    if form == "lay":
        return laid_sides(sides, step[2])
    if form == "fold":
        return folded_sides(sides, step[3])
    if form == "run":
        return flipped_sides(sides, step[3])
    return sides


def step_sides(step, sides):
    """The sides that a step's table has, told from those of the steps ahead of it."""
    ask_word(step)
    used = [sides[number] for number in args_of(step)]
    form = step[0]
    if len(used) == 0:
        return first_sides(step)
    if len(used) == 1:
        return moved_sides(step, used[0])
    if form == "pair":
        return paired_sides(used[0], used[1])
    if form == "join":
        return joined_sides(used[0], used[1], step[3])
    if form == "fetch":
        return fetched_sides(used[0], used[1])
    return picked_sides(used[0], used[1], used[2])


def step_told(step, sides):
    """The pair of a step's sides and None; where it is at fault, of None and why."""
    k = len(sides)
    if k >= MOST_STEPS:
        return (None, "many")
    if any([number < 0 or number >= k for number in args_of(step)]):
        return (None, "name")
    try:
        return (step_sides(step, sides), None)
    except NoWord:
        return (None, "word")
    except NoSide:
        return (None, "side")
    except Beyond:
        return (None, "beyond")
    except Unlike:
        return (None, "unlike")
    except TooLarge:
        return (None, "large")


def program_told(program):
    """The pair of the sides of all steps up to the first fault, and of that fault or None."""
    steps = program[0]
    outs = program[1]
    sides = []
    for step in steps:
        told = step_told(step, sides)
        if told[1] is not None:
            return (tuple(sides), (len(sides), told[1]))
        sides.append(told[0])
    if not 1 <= len(outs) <= MOST_OUTS or any([out < 0 or out >= len(steps) for out in outs]):
        return (tuple(sides), (len(steps), "out"))
    return (tuple(sides), None)


def first_fault(program):
    """The first fault of a program, a pair of a step's number and why; None for a good one."""
    return program_told(program)[1]


def checked(program):
    """The tuple of the sides of each step's table."""
    told = program_told(program)
    fault = told[1]
    if fault is not None:
        raise BadStep("a program that is not good", fault[0], fault[1])
    return told[0]
