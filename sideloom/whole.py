"""The whole: texts answered, woven or plainly, their shapes told ahead, and reports of them."""

from sideloom.bench import bench_answers
from sideloom.checking import checked
from sideloom.costs import calls_told, plain_calls, plain_cells, writings_told
from sideloom.plain import answers, inputs_checked
from sideloom.reading import read
from sideloom.tidy import thinned
from sideloom.weave import woven


def thin_weft(program):
    """What a program is woven to once it is thinned."""
    return woven(thinned(program)[0])


def named(program, names, told):
    """A list with the name of each out and what is told of it."""
    return [(names[out], one) for out, one in zip(program[1], told)]


def answered(text, inputs):
    """A list with the name and the table of each out, made on a bench."""
    told = read(text)
    program = told[0]
    inputs_checked(program, inputs)
    return named(program, told[1], bench_answers(thin_weft(program), inputs))


def answered_plainly(text, inputs):
    """A list with the name and the table of each out, made step by step."""
    told = read(text)
    return named(told[0], told[1], answers(told[0], inputs))


def told_ahead(text):
    """A list with the name and the sides of each out."""
    told = read(text)
    sides = checked(told[0])
    return named(told[0], told[1], [sides[out] for out in told[0][1]])


def costs_row(word, told, plain):
    """A row that tells what the bench costs of what the plain way does."""
    return f"{word} {told} of {plain}"


def report(text):
    """The rows of each step's name and sides, of the calls and of the cells."""
    told = read(text)
    program = told[0]
    sides = checked(program)
    weft = thin_weft(program)
    rows = [" ".join([name] + [str(side) for side in own]) for name, own in zip(told[1], sides)]
    rows.append(costs_row("calls", calls_told(weft), plain_calls(program)))
    rows.append(costs_row("cells", writings_told(weft), plain_cells(program)))
    return "\n".join(rows)
