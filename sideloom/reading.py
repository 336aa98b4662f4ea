"""Texts read to programs."""

from sideloom.errors import BadText
from sideloom.figures import HIGH, LOW
from sideloom.forms import MOST_OUTS, MOST_STEPS, is_form, parts_of
from sideloom.writing import LETTERS

FIGURES = "0123456789"
MOST_LETTERS = 8
MOST_SIDES_WRITTEN = 8


def is_made_of(word, signs, most):
    """Whether a word has one to so many signs, each one of these."""
    return 1 <= len(word) <= most and all([sign in signs for sign in word])


def is_name(word):
    """Whether a word may be a name, or a function's word, which has the same form."""
    return is_made_of(word, LETTERS, MOST_LETTERS)


def figures_of(word, most):
    """The number that one to so many figures write; None where they write none."""
    if not is_made_of(word, FIGURES, most):
        return None
    if word[0] == "0" and len(word) > 1:
        return None
    return int(word)


def small_of(word):
    """The small number that a text writes; None where it writes none."""
    return figures_of(word, 3)


def number_of(word):
    """The number of the language that a text writes; None where it writes none."""
    if word == "-0":
        return None
    is_below = word.startswith("-")
    figure = figures_of(word[1:] if is_below else word, 19)
    if figure is None:
        return None
    number = -figure if is_below else figure
    return number if LOW <= number <= HIGH else None


def smalls_of(words):
    """The tuple of small numbers, none to eight, that words write; None where they write none."""
    numbers = [small_of(word) for word in words]
    if len(numbers) > MOST_SIDES_WRITTEN or None in numbers:
        return None
    return tuple(numbers)


def part_of(kind, word, known):
    """What a word writes as one part of a step; None where it writes none."""
    if kind == "step":
        return known.get(word)
    if kind == "word":
        return word if is_name(word) else None
    if kind == "number":
        return number_of(word)
    return small_of(word)


def step_of(form, words, known):
    """The step that the words behind its form write; None where they write none."""
    parts = parts_of(form)
    step = [form] * (len(parts) + 1)
    left = list(words)
    for kind, place in parts:
        if kind == "sides":
            step[place] = smalls_of(left)
            left = []
        else:
            step[place] = part_of(kind, left.pop(0), known) if len(left) > 0 else None
    if len(left) > 0 or None in step:
        return None
    return tuple(step)


def row_step(words, known):
    """The step that the words of a row write; None where they write none."""
    if len(words) < 3 or words[1] != "=" or not is_form(words[2]):
        return None
    if not is_name(words[0]) or words[0] in known:
        return None
    return step_of(words[2], words[3:], known)


def row_outs(words, known):
    """The outs that the words of a row tell; None where they tell none."""
    outs = [known.get(word) for word in words[1:]]
    if words[0] != "out" or None in outs or not 1 <= len(outs) <= MOST_OUTS:
        return None
    return tuple(outs)


def read(text):
    """The pair of the program that a text writes and of the names of its steps."""
    rows = [row.split(" ") for row in text.split("\n")]
    known = {}
    steps = []
    for k, words in enumerate(rows[:-1]):
        step = row_step(words, known) if k < MOST_STEPS else None
        if step is None:
            raise BadText("a row that writes no step", k + 1)
        known[words[0]] = k
        steps.append(step)
    outs = row_outs(rows[-1], known)
    if outs is None:
        raise BadText("a last row that is no row of outs", len(rows))
    return ((tuple(steps), outs), tuple(known))
