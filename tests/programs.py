"""Programs that several tests use, and good ones made by chance (the same ones each time)."""

import random

from common import GREATEST, LEAST, mixed, sample, spots
from model import FOLD_WORDS, ONE_WORDS, TWO_WORDS, model_sides, product

# Rows of step 4 that write each of the fifteen forms, with the names that the numbers ahead of it have.
ROWS = (
    (("in", ()), "in"),
    (("in", (2, 3)), "in 2 3"),
    (("in", (1, 2, 3, 4, 5, 6, 7, 8)), "in 1 2 3 4 5 6 7 8"),
    (("in", (0, 999)), "in 0 999"),
    (("num", 0), "num 0"),
    (("num", -5), "num -5"),
    (("num", 1000), "num 1000"),
    (("num", 2**63 - 1), "num 9223372036854775807"),
    (("num", -2**63), "num -9223372036854775808"),
    (("count", (2, 3), 1), "count 1 2 3"),
    (("count", (), 0), "count 0"),
    (("count", (8, 7, 6, 5, 4, 3, 2, 1), 999), "count 999 8 7 6 5 4 3 2 1"),
    (("each", "neg", 1), "each neg b"),
    (("each", "nosuch", 0), "each nosuch a"),
    (("pair", "add", 1, 2), "pair add b c"),
    (("pair", "in", 3, 3), "pair in d d"),
    (("pick", 2, 1, 0), "pick c b a"),
    (("turn", 1, (1, 0, 2)), "turn b 1 0 2"),
    (("turn", 1, ()), "turn b"),
    (("turn", 0, (7, 6, 5, 4, 3, 2, 1, 0)), "turn a 7 6 5 4 3 2 1 0"),
    (("flip", 1, 2), "flip b 2"),
    (("cut", 0, 5, 4, 3, 2), "cut a 5 4 3 2"),
    (("spread", 1, 2, 3), "spread b 2 3"),
    (("lay", 2, (6, 2)), "lay c 6 2"),
    (("lay", 2, ()), "lay c"),
    (("lay", 3, (1, 1, 1, 1, 1, 1, 1, 1)), "lay d 1 1 1 1 1 1 1 1"),
    (("join", 1, 2, 0), "join b c 0"),
    (("fetch", 3, 1), "fetch d b"),
    (("fold", "add", 1, 2), "fold add b 2"),
    (("run", "mul", 2, 1), "run mul c 1"),
)
AHEAD = (("num", 0), ("num", 1), ("num", 2), ("num", 3))
AHEAD_ROWS = "a = num 0\nb = num 1\nc = num 2\nd = num 3\n"

# A program that uses all fifteen forms, some steps twice, and tells one out twice.
ALL_FORMS = (
    (
        ("in", (2, 3)),                  # 0
        ("in", (2,)),                    # 1
        ("num", -3),                     # 2: ()
        ("count", (2, 3), 1),            # 3: (2, 3)
        ("each", "neg", 0),              # 4: (2, 3)
        ("pair", "mul", 4, 1),           # 5: (2, 3)
        ("pick", 3, 5, 2),               # 6: (2, 3)
        ("turn", 6, (1, 0)),             # 7: (3, 2)
        ("flip", 7, 0),                  # 8: (3, 2)
        ("cut", 8, 0, 0, 2, 2),          # 9: (2, 2)
        ("spread", 1, 0, 2),             # 10: (2, 2)
        ("join", 9, 10, 0),              # 11: (4, 2)
        ("lay", 11, (2, 2, 2)),          # 12: (2, 2, 2)
        ("fetch", 12, 6),                # 13: (2, 3, 2, 2)
        ("fold", "add", 13, 2),          # 14: (2, 3, 2)
        ("run", "max", 14, 1),           # 15: (2, 3, 2)
        ("pair", "sub", 15, 15),         # 16: (2, 3, 2)
        ("pair", "add", 2, 16),          # 17: (2, 3, 2)
    ),
    (17, 15, 8, 17, 12, 0),
)
ALL_FORMS_SIDES = (
    (2, 3), (2,), (), (2, 3), (2, 3), (2, 3), (2, 3), (3, 2), (3, 2), (2, 2), (2, 2), (4, 2), (2, 2, 2), (2, 3, 2, 2),
    (2, 3, 2), (2, 3, 2), (2, 3, 2), (2, 3, 2),
)
ALL_FORMS_INPUTS = (((2, 3), (1, 2, 3, 4, 5, 6)), ((2,), (10, -20)))
# Without an in step.
NO_INPUTS = ((("count", (3,), 0), ("num", 2), ("pair", "mul", 0, 1), ("fold", "add", 2, 0)), (2, 3))


def random_sides(chance, most=24):
    """Sides of not too great a breadth, noughts and ones among them."""
    sides = []
    for place in range(chance.choice((0, 1, 1, 2, 2, 2, 3, 3, 4))):
        side = chance.choice((1, 2, 2, 3, 3, 4, 0)) if chance.random() < 0.4 else chance.choice((2, 3))
        if product([max(length, 1) for length in sides + [side]]) <= most:
            sides.append(side)
    return tuple(sides)


def random_laid(chance, sides):
    """Other sides for as many cells."""
    many = product(sides)
    if many == 0:
        return chance.choice(((0,), (2, 0), (0, 3, 1), sides))
    laid = []
    for place in range(chance.randrange(4)):
        parts = [part for part in range(1, many + 1) if many % part == 0]
        laid.append(chance.choice(parts))
        many //= laid[-1]
    return tuple(laid + [many]) if many > 1 else tuple(laid)


def random_form(chance, form, sides):
    """A step of this form, which may be at fault."""
    k = len(sides)
    late = max(0, k - 5)
    a, b, c = [chance.randrange(late if chance.random() < 0.7 else 0, k) for place in range(3)]
    side = chance.randrange(max(1, len(sides[a])))
    length = sides[a][side] if sides[a] else 1
    order = list(range(len(sides[a])))
    chance.shuffle(order)
    first = chance.randrange(length + 1)
    if form == "each":
        return ("each", chance.choice(ONE_WORDS), a)
    if form == "pair":
        return ("pair", chance.choice(TWO_WORDS), a, b)
    if form == "cut":
        return ("cut", a, side, first, chance.randrange(length + 1), chance.choice((1, 1, 2, 3)))
    if form in ("fold", "run"):
        return (form, chance.choice(FOLD_WORDS), a, side)
    return {
        "pick": ("pick", a, b, c), "turn": ("turn", a, tuple(order)), "flip": ("flip", a, side),
        "spread": ("spread", a, chance.randrange(len(sides[a]) + 1), chance.choice((0, 1, 2, 2, 3))),
        "lay": ("lay", a, random_laid(chance, sides[a])), "join": ("join", a, b, side), "fetch": ("fetch", a, b),
    }[form]


def random_first(chance):
    """A step that uses no other one."""
    sides = random_sides(chance)
    form = chance.choice(("in", "in", "num", "count"))
    if form == "in":
        return ("in", sides)
    if form == "num":
        return ("num", chance.choice((0, 1, -1, 5, LEAST, GREATEST, chance.randrange(-9, 9))))
    return ("count", sides, chance.randrange(len(sides))) if sides else ("num", 3)


FORMS = ("each", "pair", "pair", "pick", "turn", "flip", "cut", "spread", "lay", "join", "fetch", "fold", "run")


def random_program(chance, many, most=60):
    """A good program of so many steps, whose tables are not too great."""
    steps = [random_first(chance)]
    sides = [model_sides(steps[0], [])]
    while len(steps) < many:
        form = chance.choice(FORMS)
        step = random_first(chance) if chance.random() < 0.15 else random_form(chance, form, sides)
        told = model_sides(step, sides)
        if not isinstance(told, str) and product([max(side, 1) for side in told]) <= most:
            steps.append(step)
            sides.append(told)
    outs = [chance.randrange(max(0, many - 6), many) for place in range(chance.choice((1, 1, 2, 3, 8)))]
    return (tuple(steps), tuple(outs))


def random_programs(seed, how_many, most_steps=18):
    chance = random.Random(seed)
    return [random_program(chance, chance.randrange(1, most_steps + 1)) for place in range(how_many)]


def inputs_for(program, start=10):
    """Inputs that fit a good program: in turn without two cells alike, and of all sorts of numbers."""
    inputs = []
    for step in program[0]:
        if step[0] == "in":
            inputs.append(mixed(step[1]) if len(inputs) % 2 else sample(step[1], start - 13 * len(inputs)))
    return tuple(inputs)
