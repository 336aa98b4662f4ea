"""The forms of steps: where in a step the numbers of earlier steps stand."""

ARG_PLACES = {
    "in": (),
    "num": (),
    "count": (),
    "each": (2,),
    "pair": (2, 3),
    "pick": (1, 2, 3),
    "turn": (1,),
    "flip": (1,),
    "cut": (1,),
    "spread": (1,),
    "lay": (1,),
    "join": (1, 2),
    "fetch": (1, 2),
    "fold": (2,),
    "run": (2,),
}


def args_of(step):
    """The numbers of earlier steps that a step holds, each as often as it stands there."""
    return tuple([step[place] for place in ARG_PLACES[step[0]]])


def with_args(step, numbers):
    """The step with other numbers in the places of its arguments."""
    parts = list(step)
    for place, number in zip(ARG_PLACES[step[0]], numbers):
        parts[place] = number
    return tuple(parts)
