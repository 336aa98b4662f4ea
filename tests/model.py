"""The document's stages told a second time, by other means: tables as dicts of cells by their coordinates."""

from common import spots
from sideloom.figures import neutral, once, twice

ONE_WORDS = ("neg", "abs", "sign", "not")
TWO_WORDS = ("add", "sub", "mul", "quo", "rest", "max", "min", "less", "like", "and", "or", "xor")
FOLD_WORDS = ("add", "mul", "max", "min", "and", "or", "xor")


def used_by(step):
    """The steps that a step uses."""
    form = step[0]
    if form in ("in", "num", "count"):
        return []
    if form in ("each", "fold", "run"):
        return [step[2]]
    if form == "pair":
        return [step[2], step[3]]
    if form == "pick":
        return [step[1], step[2], step[3]]
    if form in ("join", "fetch"):
        return [step[1], step[2]]
    return [step[1]]


def product(numbers):
    answer = 1
    for number in numbers:
        answer *= number
    return answer


def too_large(sides):
    return len(sides) > 6 or product([max(side, 1) for side in sides]) > 512


def begins(few, many):
    return list(many)[:len(few)] == list(few)


def longest(all_sides):
    """The longest of these, where each two are one a beginning of the other; else None."""
    for few in all_sides:
        for many in all_sides:
            if not begins(few, many) and not begins(many, few):
                return None
    return max(all_sides, key=len)


def model_sides(step, sides):
    """The sides of a step's table, or a word that tells why there are none."""
    form = step[0]
    used = [sides[k] for k in used_by(step)]
    mine = used[0] if used else None
    if form == "in":
        return "large" if too_large(step[1]) else step[1]
    if form == "num":
        return ()
    if form == "count":
        if too_large(step[1]):
            return "large"
        return step[1] if step[2] in range(len(step[1])) else "side"
    if form == "each":
        return mine if step[1] in ONE_WORDS else "word"
    if form in ("pair", "pick"):
        if form == "pair" and step[1] not in TWO_WORDS:
            return "word"
        most = longest(used)
        return "unlike" if most is None else most
    if form == "turn":
        if list(range(len(mine))) != sorted(step[2]):
            return "side"
        return tuple([mine[k] for k in step[2]])
    if form == "spread":
        if step[2] not in range(len(mine) + 1):
            return "side"
        if step[3] < 0:
            return "beyond"
        more = list(mine)
        more.insert(step[2], step[3])
        return "large" if too_large(more) else tuple(more)
    if form == "lay":
        if too_large(step[2]):
            return "large"
        return step[2] if product(step[2]) == product(mine) else "unlike"
    if form == "fetch":
        if not mine:
            return "side"
        if mine[0] == 0:
            return "beyond"
        more = list(used[1]) + list(mine[1:])
        return "large" if too_large(more) else tuple(more)
    if form == "join":
        return model_joined(used[0], used[1], step[3])
    if form in ("fold", "run"):
        if step[1] not in FOLD_WORDS:
            return "word"
    side = step[3] if form in ("fold", "run") else step[2]
    if side not in range(len(mine)):
        return "side"
    if form == "fold":
        return tuple([length for k, length in enumerate(mine) if k != side])
    if form == "cut":
        first, many, by = step[3:]
        if first < 0 or many < 0 or by < 1 or many >= 1 and first + (many - 1) * by >= mine[side]:
            return "beyond"
        return tuple([many if k == side else length for k, length in enumerate(mine)])
    return mine


def model_joined(sides, others, side):
    if len(sides) != len(others):
        return "unlike"
    if side not in range(len(sides)):
        return "side"
    if any([sides[k] != others[k] for k in range(len(sides)) if k != side]):
        return "unlike"
    joined = list(sides)
    joined[side] += others[side]
    return "large" if too_large(joined) else tuple(joined)


def model_told(program):
    """The pair of the list of the sides of all steps and the first fault, or None."""
    sides = []
    for k, step in enumerate(program[0]):
        if k > 39:
            return sides, (k, "many")
        if [number for number in used_by(step) if number not in range(k)]:
            return sides, (k, "name")
        told = model_sides(step, sides)
        if isinstance(told, str):
            return sides, (k, told)
        sides.append(told)
    outs = program[1]
    if len(outs) not in range(1, 9) or [out for out in outs if out not in range(len(sides))]:
        return sides, (len(program[0]), "out")
    return sides, None


def with_coordinate(at, side, number):
    return at[:side] + (number,) + at[side + 1:]


def model_looks(step, sides, own, at):
    """What the cell at coordinates of a step with its own sides looks at: pairs of a step and coordinates there."""
    form = step[0]
    used = used_by(step)
    if form in ("each", "pair", "pick"):
        return [(k, at[:len(sides[k])]) for k in used]
    if form == "turn":
        back = {side: at[k] for k, side in enumerate(step[2])}
        return [(step[1], tuple([back[k] for k in range(len(at))]))]
    if form == "flip":
        return [(step[1], with_coordinate(at, step[2], own[step[2]] - 1 - at[step[2]]))]
    if form == "cut":
        return [(step[1], with_coordinate(at, step[2], step[3] + at[step[2]] * step[5]))]
    if form == "spread":
        return [(step[1], at[:step[2]] + at[step[2] + 1:])]
    if form == "lay":
        return [(step[1], spots(sides[step[1]])[spots(own).index(at)])]
    if form == "join":
        length = sides[step[1]][step[3]]
        if at[step[3]] < length:
            return [(step[1], at)]
        return [(step[2], with_coordinate(at, step[3], at[step[3]] - length))]
    if form == "fetch":
        many = len(sides[step[2]])
        rows = [(step[1], (row,) + at[many:]) for row in range(sides[step[1]][0])]
        return [(step[2], at[:many])] + rows
    if form == "fold":
        return [(step[2], at[:step[3]] + (k,) + at[step[3]:]) for k in range(sides[step[2]][step[3]])]
    if form == "run":
        return [(step[2], with_coordinate(at, step[3], k)) for k in range(at[step[3]] + 1)]
    return []


def model_number(step, sides, own, at, cells):
    """The number at coordinates of a step; cells has a dict by coordinates for each step ahead."""
    form = step[0]
    looked = [cells[k][there] for k, there in model_looks(step, sides, own, at)]
    if form == "num":
        return step[1]
    if form == "count":
        return at[step[2]]
    if form == "each":
        return once(step[1], looked[0])
    if form == "pair":
        return twice(step[1], looked[0], looked[1])
    if form == "pick":
        return looked[2] if looked[0] == 0 else looked[1]
    if form == "fetch":
        return looked[1:][looked[0] % len(looked[1:])]
    if form in ("fold", "run"):
        number = neutral(step[1])
        for other in looked:
            number = twice(step[1], number, other)
        return number
    return looked[0]


def model_tables(program, inputs):
    """The tables of all steps of a good program."""
    sides = model_told(program)[0]
    waiting = list(inputs)
    cells = []
    for step, own in zip(program[0], sides, strict=True):
        if step[0] == "in":
            cells.append(dict(zip(spots(own), waiting.pop(0)[1], strict=True)))
        else:
            cells.append({at: model_number(step, sides, own, at, cells) for at in spots(own)})
    return tuple([(own, tuple(made.values())) for own, made in zip(sides, cells, strict=True)])


def place_in(sides, at):
    return spots(sides).index(at)


def model_looks_all(program):
    """For each step and each of its places the sorted pairs of a step and a place that it looks at."""
    sides = model_told(program)[0]
    told = []
    for step, own in zip(program[0], sides, strict=True):
        looks = [model_looks(step, sides, own, at) for at in spots(own)]
        told.append([sorted({(k, place_in(sides[k], there)) for k, there in pairs}) for pairs in looks])
    return told


def model_looked(program, out, place):
    """For each step the sorted places that are looked at from a place of an out."""
    looks = model_looks_all(program)
    seen = {(program[1][out], place)}
    waiting = list(seen)
    while waiting:
        step, here = waiting.pop()
        for pair in looks[step][here]:
            if pair not in seen:
                seen.add(pair)
                waiting.append(pair)
    return tuple([tuple(sorted([here for step, here in seen if step == k])) for k in range(len(program[0]))])


def with_used(step, numbers):
    """The step with others in the places of the steps that it uses."""
    many = len(numbers)
    first = 2 if step[0] in ("each", "pair", "fold", "run") else 1
    return step[:first] + tuple(numbers) + step[first + many:]


def model_still(form, sides):
    """The step that a still one leaves as it was, or None."""
    kind = form[0]
    if kind == "turn" and list(form[2]) == sorted(form[2]):
        return form[1]
    if kind == "flip" and sides[form[1]][form[2]] in (0, 1):
        return form[1]
    if kind == "cut" and sides[form[1]][form[2]] == form[4]:
        return form[1]
    if kind == "lay" and sides[form[1]] == form[2]:
        return form[1]
    if kind == "join" and not sides[form[1]][form[3]]:
        return form[2]
    if kind == "join" and not sides[form[2]][form[3]]:
        return form[1]
    return None


def model_thinned(program):
    """A thinned program, and the new numbers for the old steps."""
    sides = model_told(program)[0]
    stands = {}
    forms = {}
    firsts = {}
    for k, step in enumerate(program[0]):
        form = forms[k] = with_used(step, [stands[number] for number in used_by(step)])
        still = model_still(form, sides)
        if form[0] == "in":
            stands[k] = k
        elif still is not None:
            stands[k] = still
        elif form[0] == "flip" and forms[form[1]][::2] == form[::2]:
            stands[k] = forms[form[1]][1]
        else:
            stands[k] = firsts.setdefault(form, k)
    kept = {stands[out] for out in program[1]} | {k for k in forms if forms[k][0] == "in"}
    waiting = list(kept)
    while waiting:
        for number in used_by(forms[waiting.pop()]):
            if number not in kept:
                kept.add(number)
                waiting.append(number)
    order = sorted(kept)
    steps = [with_used(forms[k], [order.index(number) for number in used_by(forms[k])]) for k in order]
    outs = [order.index(stands[out]) for out in program[1]]
    new = [order.index(stands[k]) if stands[k] in kept else None for k in range(len(program[0]))]
    return (tuple(steps), tuple(outs)), tuple(new)
