"""The forms of steps: what a step holds, where it stands there, and in which order a row writes it."""

MOST_STEPS = 40
MOST_OUTS = 8

# For each form the parts of a step behind its first one, in the order in which a row writes them: pairs of
# what a part is and its place in the step. Sides, of which there may be any number, are the last of a row.
PARTS = {
    "in": (("sides", 1),),
    "num": (("number", 1),),
    "count": (("small", 2), ("sides", 1)),
    "each": (("word", 1), ("step", 2)),
    "pair": (("word", 1), ("step", 2), ("step", 3)),
    "pick": (("step", 1), ("step", 2), ("step", 3)),
    "turn": (("step", 1), ("sides", 2)),
    "flip": (("step", 1), ("small", 2)),
    "cut": (("step", 1), ("small", 2), ("small", 3), ("small", 4), ("small", 5)),
    "spread": (("step", 1), ("small", 2), ("small", 3)),
    "lay": (("step", 1), ("sides", 2)),
    "join": (("step", 1), ("step", 2), ("small", 3)),
    "fetch": (("step", 1), ("step", 2)),
    "fold": (("word", 1), ("step", 2), ("small", 3)),
    "run": (("word", 1), ("step", 2), ("small", 3)),
}


def is_form(word):
    """Whether a word is the first part of a step of one of the fifteen forms."""
    return word in PARTS


def parts_of(form):
    """The parts of a form's steps: pairs of what a part is and its place in the step, in a row's order."""
    return PARTS[form]


def arg_places(form):
    """Where in a form's steps the numbers of earlier steps stand."""
    return [place for kind, place in PARTS[form] if kind == "step"]


def args_of(step):
    """The numbers of earlier steps that a step holds, each as often as it stands there."""
    return tuple([step[place] for place in arg_places(step[0])])


def with_args(step, numbers):
    """The step with other numbers in the places of its arguments."""
    parts = list(step)
    for place, number in zip(arg_places(step[0]), numbers):
        parts[place] = number
    return tuple(parts)


def reached_from(steps, ends):
    """The numbers, the least first, of the steps at the ends and of all that these use, near or far."""
    reached = [False for step in steps]
    for end in ends:
        reached[end] = True
    # Steps use earlier ones alone, so from the last one on each is settled when it comes.
    for k in range(len(steps) - 1, -1, -1):
        if reached[k]:
            for number in args_of(steps[k]):
                reached[number] = True
    return [k for k in range(len(steps)) if reached[k]]
