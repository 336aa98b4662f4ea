"""The bench: the rounds of a program's loops done in any order over flat stores."""

from sideloom.costs import loop_sides, rounds_of
from sideloom.errors import NoRound, NotDone, NotReady, Stuck, Unlike
from sideloom.figures import neutral, twice
from sideloom.sides import at_of
from sideloom.trees import reckoned, tree_spot


def loop_store(loop):
    """The number of the store that a loop writes to."""
    return loop[1] if loop[0] == "fill" else loop[2]


def stores_filled(weft, inputs):
    """The stores as lists: those that no loop writes hold the inputs' cells, the others nothing yet."""
    stores = weft[0]
    written_to = [loop_store(loop) for loop in weft[1]]
    ins = [k for k in range(len(stores)) if k not in written_to]
    if len(inputs) != len(ins):
        raise Unlike("not as many inputs as stores for them")
    cells = [[None] * store[1] for store in stores]
    for k, tab in zip(ins, inputs):
        if len(tab[1]) != stores[k][1]:
            raise Unlike("an input that has not as many cells as its store")
        cells[k] = list(tab[1])
    return cells


def fill_made(loop, at, cells):
    """The pair of what a fill's round is to write, pairs of a spot and a number, and of its calls."""
    told = reckoned(loop[5], at, cells)
    return ([(tree_spot(loop[3], loop[4], at), told[0])], told[1])


def run_made(loop, at, cells):
    """The same of a run's round."""
    number = neutral(loop[1])
    writings = []
    calls = 0
    for k in range(loop[4]):
        told = reckoned(loop[7], at + (k,), cells)
        number = twice(loop[1], number, told[0])
        writings.append((tree_spot(loop[5], loop[6], at + (k,)), number))
        calls = calls + 1 + told[1]
    return (writings, calls)


def ask_writings(writings, cells):
    """Refuses writings that are not each to a place of its own in a store where nothing stands yet."""
    spots = [spot for spot, number in writings]
    if len(set(spots)) != len(spots):
        raise Stuck("a place written twice by one round")
    for spot in spots:
        if spot < 0 or spot >= len(cells):
            raise Stuck("a writing outside of a store")
        if cells[spot] is not None:
            raise Stuck("a place that is written already")


class Bench:
    """What a program was woven to, its stores filled from inputs, and the rounds done so far."""

    def __init__(self, weft, inputs):
        self.cells = stores_filled(weft, inputs)
        self.loops = weft[1]
        self.outs = weft[2]
        self.done = {}
        self.calls = 0
        self.log = []

    def left(self):
        """A new list of the rounds that are not done."""
        rounds = []
        for k, loop in enumerate(self.loops):
            for round_at in range(rounds_of(loop)):
                if (k, round_at) not in self.done:
                    rounds.append((k, round_at))
        return rounds

    def do(self, loop, round_at):
        """Does a round, or refuses it and changes nothing."""
        if loop < 0 or loop >= len(self.loops):
            raise NoRound("a loop that is not there")
        told = self.loops[loop]
        if round_at < 0 or round_at >= rounds_of(told):
            raise NoRound("a round that is not there")
        if (loop, round_at) in self.done:
            raise NoRound("a round that was done already")
        at = at_of(loop_sides(told), round_at)
        made = fill_made(told, at, self.cells) if told[0] == "fill" else run_made(told, at, self.cells)
        to = loop_store(told)
        ask_writings(made[0], self.cells[to])
        for spot, number in made[0]:
            self.cells[to][spot] = number
            self.log.append((loop, round_at, to, spot, number))
        self.calls = self.calls + made[1]
        self.done[(loop, round_at)] = True
        return True

    def calls_made(self):
        """How many functions the done rounds called."""
        return self.calls

    def log_told(self):
        """A new list of the writings: tuples of loop, round, store, place and number."""
        return list(self.log)

    def store(self, k):
        """A new list of what stands in a store, None where nothing is written."""
        return list(self.cells[k])

    def answers_told(self):
        """The tuple of the tables of the outs."""
        if len(self.left()) > 0:
            raise NotDone("rounds are left")
        return tuple([(sides, tuple(self.cells[k])) for k, sides in self.outs])


def is_done_now(bench, round_told):
    """Whether a round was ready, and so is done now."""
    try:
        return bench.do(round_told[0], round_told[1])
    except NotReady:
        return False


def place_done(bench, waiting, first):
    """Does the first round that is ready, going round from a first place on; gives its place."""
    for k in range(len(waiting)):
        place = (first + k) % len(waiting)
        if is_done_now(bench, waiting[place]):
            return place
    raise NotReady("no round that is left is ready")


def bench_answers(weft, inputs, order=None):
    """The tuple of answers when all rounds are done, in the order that a function tells."""
    bench = Bench(weft, inputs)
    waiting = bench.left()
    while len(waiting) > 0:
        asked = 0 if order is None else order(list(waiting))
        waiting.pop(place_done(bench, waiting, asked % len(waiting)))
    return bench.answers_told()
