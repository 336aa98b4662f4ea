"""Programs thinned: steps that another one stands for are left out."""

from sideloom.checking import checked
from sideloom.forms import args_of, reached_from, with_args


def still_for(step, sides):
    """The argument that stands for a step which leaves it as it was; None for other steps."""
    form = step[0]
    if form == "turn":
        is_still = step[2] == tuple(range(len(step[2])))
    elif form == "flip":
        is_still = sides[step[1]][step[2]] < 2
    elif form == "cut":
        is_still = step[4] == sides[step[1]][step[2]]
    elif form == "lay":
        is_still = step[2] == sides[step[1]]
    elif form == "join" and sides[step[1]][step[3]] == 0:
        return step[2]
    else:
        is_still = form == "join" and sides[step[2]][step[3]] == 0
    return step[1] if is_still else None


def unflipped(step, forms):
    """What a flip of a flip along the same side flips twice; None for other steps."""
    if step[0] != "flip":
        return None
    inner = forms[step[1]]
    return inner[1] if inner[0] == "flip" and inner[2] == step[2] else None


def standing_for(step, forms, stands, sides):
    """The step that stands for the next one, whose new form is told; forms and stands are those ahead of it."""
    k = len(forms)
    if step[0] == "in":
        return k
    still = still_for(step, sides)
    if still is not None:
        return still
    inner = unflipped(step, forms)
    if inner is not None:
        return inner
    for number, form in enumerate(forms):
        if stands[number] == number and form == step:
            return number
    return k


def thinned(program):
    """The pair of the thinned program and of the new number, or None, for each old step."""
    sides = checked(program)
    forms = []
    stands = []
    for step in program[0]:
        form = with_args(step, tuple([stands[number] for number in args_of(step)]))
        stands.append(standing_for(form, forms, stands, sides))
        forms.append(form)
    ends = [stands[out] for out in program[1]]
    ins = [k for k, step in enumerate(program[0]) if step[0] == "in"]
    kept = reached_from(forms, ins + ends)
    new = dict([(number, k) for k, number in enumerate(kept)])
    steps = [with_args(forms[k], tuple([new[number] for number in args_of(forms[k])])) for k in kept]
    outs = tuple([new[end] for end in ends])
    return ((tuple(steps), outs), tuple([new.get(number) for number in stands]))
