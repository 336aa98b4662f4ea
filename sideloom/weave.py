"""Programs woven: steps laid together into loops over flat stores."""

from sideloom.checking import checked
from sideloom.forms import args_of, reached_from
from sideloom.sides import amount, strides_of
from sideloom.trees import is_free, remade
from sideloom.views import inner_view, led_view, moved_view, plain_view


def live_steps(program):
    """The numbers of the steps that are an out's or that a live step uses, the least first."""
    return reached_from(program[0], program[1])


def uses_of(program):
    """For each step its uses by live steps: pairs of the user's number and of the place among its arguments."""
    steps = program[0]
    uses = [[] for step in steps]
    for user in live_steps(program):
        for place, number in enumerate(args_of(steps[user])):
            uses[number].append((user, place))
    return uses


def seen_as(tree, sides, move):
    """A tree over the coordinates of sides, remade as a view of them is by the move."""
    return remade(tree, lambda start, strides: move((sides, start, strides))[1:])


def led_tree(tree, sides, longer):
    """A tree over the coordinates of sides led to longer ones."""
    return seen_as(tree, sides, lambda view: led_view(view, longer))


def inner_tree(tree, sides, side):
    """A tree over the coordinates of sides, one of which is made inner."""
    return seen_as(tree, sides, lambda view: inner_view(view, side))


def read_of(store, sides):
    """The tree that reads a whole table of these sides from its store."""
    return ("read", store, 0, strides_of(sides))


def fetched_tree(step, own, sides, trees):
    """The tree of a fetch with its own sides, whose first step's tree is a read."""
    source = trees[step[1]]
    asked = sides[step[2]]
    strides = (0,) * len(asked) + source[3][1:]
    row = led_tree(trees[step[2]], asked, own)
    return ("fetch", source[1], source[2], source[3][0], sides[step[1]][0], strides, row)


def bare_tree(step, own, sides, trees):
    """The tree of a step with its own sides, were it not kept; of an in step, a run and a join there is none."""
    form = step[0]
    used = args_of(step)
    if form == "num":
        return step
    if form == "count":
        return ("index", 0, tuple([1 if side == step[2] else 0 for side in range(len(own))]))
    if form in ("each", "pair", "pick"):
        ahead = step[:len(step) - len(used)]
        return ahead + tuple([led_tree(trees[number], sides[number], own) for number in used])
    if form in ("turn", "flip", "cut", "spread"):
        return seen_as(trees[used[0]], sides[used[0]], lambda view: moved_view(step, view))
    if form == "lay":
        # What a lay uses is in, kept or laid itself, so its tree is a read.
        return read_of(trees[used[0]][1], own)
    if form == "fetch":
        return fetched_tree(step, own, sides, trees)
    if form == "fold":
        used_sides = sides[used[0]]
        return ("fold", step[1], used_sides[step[3]], inner_tree(trees[used[0]], used_sides, step[3]))
    return None


def is_led(k, use, steps, sides):
    """Whether a use leads step k to more sides than its own."""
    form = steps[use[0]][0]
    is_leading = form in ("pair", "pick") or (form == "fetch" and use[1] == 1)
    return is_leading and len(sides[use[0]]) > len(sides[k])


def is_kept(k, tree, program, sides, uses):
    """Whether a live step, no in step, is kept; the tree is the one that it would have if it weren't."""
    steps = program[0]
    if steps[k][0] == "lay":
        return False
    if steps[k][0] in ("run", "join") or k in program[1]:
        return True
    users = [steps[use[0]][0] for use in uses]
    if "lay" in users:
        return True
    if tree[0] != "read" and any([steps[use[0]][0] == "fetch" and use[1] == 0 for use in uses]):
        return True
    if is_free(tree):
        return False
    return len(uses) > 1 or "spread" in users or any([is_led(k, use, steps, sides) for use in uses])


def spun(program, sides):
    """A triple of lists: each step's tree, the one that it would have if it weren't kept, and the steps with stores."""
    steps = program[0]
    live = live_steps(program)
    uses = uses_of(program)
    trees = []
    bare = []
    stored = []
    for k, step in enumerate(steps):
        tree = bare_tree(step, sides[k], sides, trees) if k in live else None
        bare.append(tree)
        if step[0] == "in" or (k in live and is_kept(k, tree, program, sides, uses[k])):
            tree = read_of(len(stored), sides[k])
            stored.append(k)
        trees.append(tree)
    return (trees, bare, stored)


def run_loop(step, store, sides, trees):
    """The loop of a run, whose table has the sides of the one that it uses."""
    used = sides[step[2]]
    side = step[3]
    view = inner_view(plain_view(used), side)
    tree = inner_tree(trees[step[2]], used, side)
    return ("run", step[1], store, view[0], used[side], view[1], view[2], tree)


def join_loops(step, store, own, sides, trees):
    """The two loops of a join with its own sides."""
    first = step[1]
    second = step[2]
    strides = strides_of(own)
    start = sides[first][step[3]] * strides[step[3]]
    return [
        ("fill", store, sides[first], 0, strides, trees[first]),
        ("fill", store, sides[second], start, strides, trees[second]),
    ]


def step_loops(k, store, program, sides, spun_trees):
    """The loops of a kept step."""
    step = program[0][k]
    trees = spun_trees[0]
    if step[0] == "run":
        return [run_loop(step, store, sides, trees)]
    if step[0] == "join":
        return join_loops(step, store, sides[k], sides, trees)
    return [("fill", store, sides[k], 0, strides_of(sides[k]), spun_trees[1][k])]


def kept_steps(program):
    """The numbers of the kept steps, the least first."""
    stored = spun(program, checked(program))[2]
    return [k for k in stored if program[0][k][0] != "in"]


def woven(program):
    """The triple of stores, loops and outs that a program is woven to."""
    sides = checked(program)
    spun_trees = spun(program, sides)
    stored = spun_trees[2]
    loops = []
    for store, k in enumerate(stored):
        if program[0][k][0] != "in":
            loops.extend(step_loops(k, store, program, sides, spun_trees))
    stores = tuple([(k, amount(sides[k])) for k in stored])
    # An out's step is in, kept or laid, so its tree is a read.
    outs = tuple([(spun_trees[0][out][1], sides[out]) for out in program[1]])
    return (stores, tuple(loops), outs)
