"""Trees, which tell how a number is reckoned at coordinates over flat stores."""

from sideloom.errors import NotReady, Stuck
from sideloom.figures import neutral, once, twice
from sideloom.views import spot_of


def is_free(tree):
    """Whether a tree calls no function."""
    return tree[0] in ("num", "index", "read")


def branches_of(tree):
    """The trees that a tree holds, from left to right."""
    form = tree[0]
    if form == "pick":
        return tree[1:]
    if form in ("each", "pair"):
        return tree[2:]
    if form == "fold":
        return tree[3:]
    if form == "fetch":
        return tree[6:]
    return ()


def calls_of(tree):
    """How many functions a tree calls."""
    if is_free(tree):
        return 0
    calls = 1
    for branch in branches_of(tree):
        calls = calls + calls_of(branch)
    return tree[2] * calls if tree[0] == "fold" else calls


def stores_of(tree):
    """The numbers of the stores that a tree reads or fetches from, each once, the least first."""
    found = {}
    waiting = [tree]
    while len(waiting) > 0:
        part = waiting.pop()
        if part[0] in ("read", "fetch"):
            found[part[1]] = True
        waiting.extend(branches_of(part))
    return sorted(found)


def root_remade(tree, change):
    """What stands ahead of a tree's branches, remade by a change of its start and strides."""
    form = tree[0]
    if form == "index":
        return ("index",) + change(tree[1], tree[2])
    if form == "read":
        return ("read", tree[1]) + change(tree[2], tree[3])
    if form == "fetch":
        told = change(tree[2], tree[5])
        return ("fetch", tree[1], told[0], tree[3], tree[4], told[1])
    return tree[:len(tree) - len(branches_of(tree))]


def remade(tree, change):
    """The tree with each start and strides in it changed, those within folds too."""
    branches = []
    for branch in branches_of(tree):
        branches.append(remade(branch, change))
    return root_remade(tree, change) + tuple(branches)


def taken(store, spot):
    """What stands at a spot in a store."""
    if spot < 0 or spot >= len(store):
        raise Stuck("a reading outside of a store")
    if store[spot] is None:
        raise NotReady("a place that is not written yet")
    return store[spot]


def tree_spot(start, strides, at):
    """The spot of coordinates, of which nothing is asked, as of inner ones."""
    return spot_of(((), start, strides), at)


def free_number(tree, at, stores):
    """What a free tree tells at coordinates."""
    if tree[0] == "num":
        return tree[1]
    if tree[0] == "index":
        return tree_spot(tree[1], tree[2], at)
    return taken(stores[tree[1]], tree_spot(tree[2], tree[3], at))


def put_together(tree, numbers, at, stores):
    """What an each, pair, pick or fetch makes of what its branches tell."""
    form = tree[0]
    if form == "each":
        return once(tree[1], numbers[0])
    if form == "pair":
        return twice(tree[1], numbers[0], numbers[1])
    if form == "pick":
        return numbers[1] if numbers[0] != 0 else numbers[2]
    row = numbers[0] % tree[4]
    return taken(stores[tree[1]], tree_spot(tree[2], tree[5], at) + tree[3] * row)


def folded(tree, at, stores):
    """The number and the calls of a fold."""
    number = neutral(tree[1])
    calls = 0
    for k in range(tree[2]):
        told = reckoned(tree[3], at + (k,), stores)
        number = twice(tree[1], number, told[0])
        calls = calls + 1 + told[1]
    return (number, calls)


def reckoned(tree, at, stores):
    """The pair of the number that a tree tells at coordinates and of the calls that were made."""
    if is_free(tree):
        return (free_number(tree, at, stores), 0)
    if tree[0] == "fold":
        return folded(tree, at, stores)
    numbers = []
    calls = 1
    for branch in branches_of(tree):
        told = reckoned(branch, at, stores)
        numbers.append(told[0])
        calls = calls + told[1]
    return (put_together(tree, numbers, at, stores), calls)
