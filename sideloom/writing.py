"""Programs written as texts."""

from sideloom.forms import parts_of

LETTERS = "abcdefghijklmnopqrstuvwxyz"


def name_of(k):
    """The name of a number: a to z, then aa to zz, and so on."""
    name = ""
    left = k
    while left >= 0:
        name = LETTERS[left % 26] + name
        # No letter stands for nought, so each name of one letter more begins anew at the first letter.
        left = left // 26 - 1
    return name


def part_words(kind, part, names):
    """The words that write one part of a step."""
    if kind == "step":
        return [names[part]]
    if kind == "sides":
        return [str(number) for number in part]
    return [str(part)]


def step_row(name, step, names):
    """The row that writes a step."""
    words = [name, "=", step[0]]
    for kind, place in parts_of(step[0]):
        words.extend(part_words(kind, step[place], names))
    return " ".join(words)


def written(program, names=None):
    """The text of a program, its steps called by these names or by those of their numbers."""
    steps = program[0]
    called = [name_of(k) for k in range(len(steps))] if names is None else names
    rows = [step_row(name, step, called) for name, step in zip(called, steps)]
    rows.append(" ".join(["out"] + [called[out] for out in program[1]]))
    return "\n".join(rows)
