"""The plain way: a program answered step by step, table by table."""

from sideloom.checking import checked
from sideloom.errors import Unlike
from sideloom.folding import fold, run
from sideloom.forms import args_of
from sideloom.lifting import counted, each, fetch, pair, pick
from sideloom.moves import cut, flip, join, lay, spread, turn
from sideloom.tables import alone


def moved_table(step, tab):
    """The table of a step that uses one with this table."""
    form = step[0]
    if form == "each":
        return each(step[1], tab)
    if form == "turn":
        return turn(tab, step[2])
    if form == "flip":
        return flip(tab, step[2])
    if form == "cut":
        return cut(tab, step[2], step[3], step[4], step[5])
    if form == "spread":
        return spread(tab, step[2], step[3])
    if form == "lay":
        return lay(tab, step[2])
    if form == "fold":
        return fold(step[1], tab, step[3])
    return run(step[1], tab, step[3])


def step_table(step, tabs):
    """The table of a step that is not an in step, made of those of the steps ahead of it."""
    form = step[0]
    used = [tabs[number] for number in args_of(step)]
    if form == "num":
        return alone(step[1])
    if form == "count":
        return counted(step[1], step[2])
    if form == "pair":
        return pair(step[1], used[0], used[1])
    if form == "pick":
        return pick(used[0], used[1], used[2])
    if form == "join":
        return join(used[0], used[1], step[3])
    if form == "fetch":
        return fetch(used[0], used[1])
    return moved_table(step, used[0])


def inputs_checked(program, inputs):
    """The tuple of the sides of each step's table, where the inputs fit the program."""
    sides = checked(program)
    asked = [told for step, told in zip(program[0], sides) if step[0] == "in"]
    if [tab[0] for tab in inputs] != asked:
        raise Unlike("inputs that don't fit the in steps")
    return sides


def all_tables(program, inputs):
    """The tuple of the tables of all steps."""
    inputs_checked(program, inputs)
    waiting = list(inputs)
    tabs = []
    for step in program[0]:
        tabs.append(waiting.pop(0) if step[0] == "in" else step_table(step, tabs))
    return tuple(tabs)


def answers(program, inputs):
    """The tuple of the tables of a program's outs."""
    tabs = all_tables(program, inputs)
    return tuple([tabs[out] for out in program[1]])
