"""Points 7.1 to 7.4 and the interface's part sideloom/trees.py."""

import copy
import random
import unittest
import unittest.mock

import common
from common import GREATEST, LEAST
from model import FOLD_WORDS, ONE_WORDS, TWO_WORDS
from sideloom.errors import LoomError, NotReady, Stuck
from sideloom.figures import neutral, once, twice
from sideloom.trees import calls_of, is_free, reckoned, remade, stores_of

NUM = ("num", 3)
INDEX = ("index", 5, (10, 1))
READ = ("read", 0, 1, (2, 1))
# A read within one fold, one coordinate more.
INNER = ("read", 1, 0, (0, 2, 1))
STORES = ([0, 1, 2, 3, 4, 5, 6, 7], (10, 11, 12, 13, 14), [], [None, 5, None], (GREATEST, LEAST, -1))
OUTSIDE = ("read", 0, 8, (0, 0))
BELOW = ("read", 0, -1, (0, 0))
EMPTY = ("read", 2, 0, (0, 0))
UNWRITTEN = ("read", 3, 0, (0, 0))
WRITTEN = ("read", 3, 1, (0, 0))


def fold(word, many, tree):
    return ("fold", word, many, tree)


def fetch(store, start, stride, many, strides, tree):
    return ("fetch", store, start, stride, many, strides, tree)


class Free(unittest.TestCase):
    def test_free_ones(self):
        for tree in (NUM, INDEX, READ, ("num", 0), ("index", 0, ()), ("read", 0, 0, ())):
            self.assertIs(is_free(tree), True)

    def test_others(self):
        for tree in (("each", "neg", NUM), ("pair", "add", NUM, NUM), ("pick", NUM, NUM, NUM), fold("add", 0, NUM),
                     fold("add", 3, NUM), fetch(0, 0, 1, 2, (0, 0), NUM)):
            self.assertIs(is_free(tree), False)


class Calls(unittest.TestCase):
    def test_each_form(self):
        one = ("each", "neg", NUM)
        two = ("each", "neg", one)
        for tree, calls in (
                (NUM, 0), (INDEX, 0), (READ, 0), (one, 1), (two, 2),
                (("pair", "add", NUM, READ), 1), (("pair", "add", one, NUM), 2), (("pair", "add", NUM, two), 3),
                (("pair", "add", one, two), 4),
                (("pick", NUM, NUM, NUM), 1), (("pick", one, NUM, NUM), 2), (("pick", NUM, two, NUM), 3),
                (("pick", NUM, NUM, one), 2), (("pick", one, two, two), 6),
                (fetch(0, 0, 1, 2, (0, 0), NUM), 1), (fetch(0, 7, 9, 8, (5, 5), two), 3),
                (fold("add", 4, NUM), 4), (fold("add", 4, one), 8), (fold("add", 4, two), 12), (fold("add", 0, two), 0),
                (fold("add", 1, NUM), 1), (fold("add", 3, fold("mul", 2, NUM)), 9),
                (fold("add", 3, fold("mul", 2, one)), 15),
                (fold("add", 3, fold("mul", 0, one)), 3), (fold("add", 0, fold("mul", 2, one)), 0),
                (("each", "neg", fold("add", 4, one)), 9), (fold("add", 10**20, one), 2 * 10**20)):
            self.assertEqual(calls_of(tree), calls, tree)


class Stores(unittest.TestCase):
    def told(self, tree, stores):
        self.assertEqual(stores_of(tree), stores)
        self.assertIs(type(stores_of(tree)), list)

    def test_each_form(self):
        def at(k):
            return ("read", k, 3, (4, 5))
        self.told(NUM, [])
        self.told(INDEX, [])
        self.told(at(7), [7])
        self.told(("each", "neg", at(2)), [2])
        self.told(("each", "neg", NUM), [])
        self.told(("pair", "add", at(3), at(1)), [1, 3])
        self.told(("pair", "add", at(3), at(3)), [3])
        self.told(("pick", at(30), at(4), at(5)), [4, 5, 30])
        self.told(("pick", at(9), NUM, at(0)), [0, 9])
        self.told(fetch(6, 0, 1, 2, (0, 0), NUM), [6])
        self.told(fetch(6, 0, 1, 2, (0, 0), at(2)), [2, 6])
        self.told(fetch(2, 0, 1, 2, (0, 0), fetch(2, 0, 1, 2, (0, 0), INDEX)), [2])
        self.told(fold("add", 4, at(8)), [8])
        self.told(fold("add", 0, at(8)), [8])
        self.told(fold("add", 3, ("pair", "add", fold("mul", 2, at(5)), fetch(1, 0, 1, 2, (0,), at(11)))), [1, 5, 11])

    def test_lists_are_the_askers_own(self):
        stores_of(READ).append(9)
        self.assertEqual(stores_of(READ), [0])


class Remade(unittest.TestCase):
    def test_each_form(self):
        def change(start, strides):
            return (start + 100, (7,) + strides)
        changed = ("read", 0, 101, (7, 2, 1))
        for tree, other in (
                (NUM, NUM), (INDEX, ("index", 105, (7, 10, 1))), (READ, changed),
                (("each", "neg", READ), ("each", "neg", changed)),
                (("pair", "sub", READ, NUM), ("pair", "sub", changed, NUM)),
                (("pair", "sub", NUM, READ), ("pair", "sub", NUM, changed)),
                (("pick", READ, INDEX, NUM), ("pick", changed, ("index", 105, (7, 10, 1)), NUM)),
                (("pick", NUM, NUM, READ), ("pick", NUM, NUM, changed)),
                (fetch(4, 1, 2, 3, (5, 6), READ), fetch(4, 101, 2, 3, (7, 5, 6), changed)),
                (fetch(4, 1, 2, 3, (5, 6), NUM), fetch(4, 101, 2, 3, (7, 5, 6), NUM)),
                (fold("max", 9, INNER), fold("max", 9, ("read", 1, 100, (7, 0, 2, 1)))),
                (fold("max", 9, fold("min", 0, ("pair", "add", READ, fetch(4, 1, 2, 3, (5, 6), READ)))),
                 fold("max", 9, fold("min", 0, ("pair", "add", changed, fetch(4, 101, 2, 3, (7, 5, 6), changed)))))):
            self.assertEqual(remade(tree, change), other)
            self.assertEqual(remade(tree, lambda start, strides: (start, strides)), tree)
            self.assertIs(type(remade(tree, change)), tuple)

    def test_what_a_change_is_given(self):
        given = []

        def change(start, strides):
            given.append((start, strides))
            return (0, ())
        tree = fold("add", 2, ("pick", READ, ("each", "neg", INDEX), fetch(4, 1, 2, 3, (5, 6), INNER)))
        self.assertEqual(remade(tree, change), fold("add", 2, (
            "pick", ("read", 0, 0, ()), ("each", "neg", ("index", 0, ())), fetch(4, 0, 2, 3, (), ("read", 1, 0, ())))))
        self.assertEqual(sorted(given), sorted([(1, (2, 1)), (5, (10, 1)), (1, (5, 6)), (0, (0, 2, 1))]))

    def test_what_is_handed_in_stays(self):
        tree = fold("add", 2, ("pick", READ, ("each", "neg", INDEX), fetch(4, 1, 2, 3, (5, 6), INNER)))
        before = copy.deepcopy(tree)
        remade(tree, lambda start, strides: (start + 1, strides))
        self.assertEqual(tree, before)


class Reckoned(common.Refusing):
    def told(self, tree, at, number, calls):
        tuples = tuple([tuple(store) for store in STORES])
        for stores in (STORES, list(STORES), tuples, [list(store) for store in STORES]):
            self.assertEqual(reckoned(tree, at, stores), (number, calls), tree)
            self.assertIs(type(reckoned(tree, at, stores)), tuple)

    def test_numbers_and_indexes(self):
        self.told(NUM, (0, 0), 3, 0)
        self.told(("num", LEAST), (), LEAST, 0)
        self.told(INDEX, (0, 0), 5, 0)
        self.told(INDEX, (2, 3), 28, 0)
        self.told(("index", -4, ()), (), -4, 0)
        self.told(("index", -4, (-3, 0)), (2, 9), -10, 0)

    def test_an_index_is_not_wrapped(self):
        self.told(("index", GREATEST, (1, 0)), (1, 0), GREATEST + 1, 0)
        self.told(("index", LEAST, (-1, 0)), (1, 0), LEAST - 1, 0)
        self.told(("index", 2**64, (0, 0)), (0, 0), 2**64, 0)
        # A function wraps what comes out of it.
        self.told(("pair", "add", ("index", GREATEST, (1, 0)), ("num", 0)), (1, 0), LEAST, 1)
        self.told(fetch(0, 0, 1, 3, (0, 0), ("index", 2**64 + 1, (0, 0))), (0, 0), (2**64 + 1) % 3, 1)

    def test_reads(self):
        for at in common.spots((2, 2)):
            self.told(READ, at, 1 + 2 * at[0] + at[1], 0)
        self.told(("read", 1, 4, (-1,)), (3,), 11, 0)
        self.told(("read", 1, 2, ()), (), 12, 0)
        self.told(WRITTEN, (0, 0), 5, 0)
        self.told(("read", 4, 1, ()), (), LEAST, 0)

    def test_functions(self):
        for word in ONE_WORDS:
            for x in (-7, 0, 7, LEAST, GREATEST):
                self.told(("each", word, ("num", x)), (), once(word, x), 1)
        for word in TWO_WORDS:
            for x, y in ((7, 2), (2, 7), (-7, 2), (0, 0), (LEAST, -1), (GREATEST, 1), (5, 0)):
                self.told(("pair", word, ("num", x), ("num", y)), (), twice(word, x, y), 1)
        self.told(("pair", "sub", READ, INDEX), (1, 1), 4 - 16, 1)
        self.told(("each", "neg", ("each", "neg", READ)), (1, 0), 3, 2)

    def test_picks(self):
        busy = ("each", "neg", ("num", -4))
        for mark, number in ((1, 4), (-1, 4), (GREATEST, 4), (0, 8)):
            self.told(("pick", ("num", mark), busy, ("num", 8)), (0, 0), number, 2)
            self.told(("pick", ("num", mark), ("num", 4), ("each", "neg", ("num", -8))), (0, 0), number, 2)
        self.told(("pick", busy, busy, busy), (0, 0), 4, 4)

    def test_fetches(self):
        for number in (-6, -5, -4, -3, -2, -1, 0, 1, 2, 3, 4, 5, LEAST, GREATEST):
            self.told(fetch(1, 0, 1, 5, (0, 0), ("num", number)), (0, 0), 10 + number % 5, 1)
            self.told(fetch(1, 4, -1, 3, (0, 0), ("num", number)), (0, 0), 14 - number % 3, 1)
            self.told(fetch(1, 1, 7, 1, (0, 0), ("num", number)), (0, 0), 11, 1)
        self.told(fetch(0, 1, 3, 2, (2, 1), ("each", "neg", INDEX)), (1, 1), 1 + 2 + 1 + 3 * (-16 % 2), 2)
        self.told(fetch(0, 1, 3, 2, (2, 1), ("each", "neg", INDEX)), (1, 0), 1 + 2 + 3 * (-15 % 2), 2)
        self.told(fetch(0, 0, 1, 8, (0,), fetch(0, 0, 1, 8, (0,), ("num", -3))), (0,), 5, 2)

    def test_folds(self):
        self.told(fold("add", 3, ("read", 1, 0, (1,))), (), 33, 3)
        self.told(fold("add", 3, ("index", 100, (10, 1))), (4,), 140 + 141 + 142, 3)
        self.told(fold("mul", 3, ("pair", "add", ("index", 1, (0, 1)), ("num", 1))), (9,), 2 * 3 * 4, 6)
        for word in FOLD_WORDS:
            self.told(fold(word, 0, ("read", 9, 99, ())), (), neutral(word), 0)
            self.told(fold(word, 1, ("num", -7)), (), -7, 1)
            self.told(fold(word, 2, ("num", -7)), (), twice(word, -7, -7), 2)

    def test_the_order_of_a_folds_inner_coordinates(self):
        # The innermost coordinate is the last one.
        for word, number in (("max", 32), ("min", 10), ("add", 10 + 11 + 12 + 20 + 21 + 22 + 30 + 31 + 32)):
            self.told(fold(word, 3, fold(word, 3, ("index", 10, (5, 10, 1)))), (0,), number, 12)
        self.told(fold("add", 2, fold("mul", 3, ("read", 0, 1, (0, 3, 1)))), (7,), 1 * 2 * 3 + 4 * 5 * 6, 8)
        self.told(fold("mul", 2, fold("add", 3, ("read", 0, 1, (0, 3, 1)))), (7,), 6 * 15, 8)

    def test_what_comes_so_far_is_the_first_of_the_two_numbers(self):
        # None of the words that fold lets the order be seen, so another function is put in their place.
        with unittest.mock.patch("sideloom.trees.twice", lambda word, x, y: 10 * x + y):
            self.told(fold("add", 3, ("index", 1, (1,))), (), 123, 3)
            self.told(fold("mul", 3, ("index", 1, (1,))), (), 1123, 3)

    def test_folds_within_others(self):
        self.told(fold("add", 2, fold("add", 0, READ)), (0, 0), 0, 2)
        self.told(("pair", "sub", fold("add", 4, ("read", 0, 0, (0, 1))), fold("add", 2, ("read", 1, 0, (1, 1)))), (2,),
                  6 - (12 + 13), 7)
        self.told(fetch(1, 0, 1, 5, (0,), fold("add", 4, ("read", 0, 0, (0, 1)))), (2,), 11, 5)
        self.told(fold("add", 4, fetch(1, 0, 1, 5, (0, 0), ("read", 0, 0, (0, 1)))), (2,), 10 + 11 + 12 + 13, 8)
        self.told(fold("max", 2, ("pick", ("index", 0, (1,)), ("num", 4), ("each", "neg", ("num", 3)))), (), 4, 6)

    def test_outside_and_not_written(self):
        for tree in (OUTSIDE, BELOW, EMPTY, ("read", 1, 3, (1, 1)), ("read", 0, 0, (-1, 0))):
            self.refused(Stuck, reckoned, tree, (1, 1), STORES)
        self.refused(NotReady, reckoned, UNWRITTEN, (0, 0), STORES)
        self.refused(NotReady, reckoned, ("read", 3, 1, (1,)), (1,), STORES)
        self.refused(NotReady, reckoned, ("read", 3, 2, ()), (), STORES)
        self.refused(Stuck, reckoned, ("read", 3, 3, ()), (), STORES)
        self.refused(Stuck, reckoned, ("read", 3, -1, ()), (), STORES)
        self.refused(Stuck, reckoned, ("read", 3, -3, ()), (), STORES)
        self.refused(Stuck, reckoned, ("read", 0, common.GREAT, ()), (), STORES)

    def test_the_edges_of_a_store(self):
        self.told(("read", 0, 7, ()), (), 7, 0)
        self.told(("read", 0, 0, ()), (), 0, 0)
        self.refused(Stuck, reckoned, ("read", 0, 8, ()), (), STORES)

    def test_whichever_is_met_first(self):
        stuck = OUTSIDE
        late = UNWRITTEN
        for first, second, kind in ((stuck, late, Stuck), (late, stuck, NotReady)):
            for tree in (("pair", "add", first, second), ("pick", first, second, NUM), ("pick", NUM, first, second),
                         ("pick", first, NUM, second), ("pick", ("num", 0), first, second),
                         ("pair", "add", ("each", "neg", first), second),
                         ("pair", "add", NUM, ("pair", "add", first, second)),
                         ("pair", "add", ("pair", "add", NUM, first), second),
                         fetch(0, 0, 1, 2, (0, 0), ("pair", "add", first, second)),
                         ("pair", "add", fold("add", 1, in_fold(first)), second),
                         ("pair", "add", fetch(0, 0, 1, 2, (0, 0), first), second),
                         fold("add", 2, ("pair", "add", in_fold(first), in_fold(second))),
                         ("pair", "add", fold("add", 0, in_fold(second)), ("pair", "mul", first, second))):
                self.refused(kind, reckoned, tree, (0, 0), STORES)

    def test_a_branch_that_is_not_picked_is_reckoned_too(self):
        self.refused(Stuck, reckoned, ("pick", ("num", 1), NUM, OUTSIDE), (0, 0), STORES)
        self.refused(NotReady, reckoned, ("pick", ("num", 0), UNWRITTEN, NUM), (0, 0), STORES)

    def test_a_fetchs_own_tree_goes_ahead_of_it(self):
        self.refused(NotReady, reckoned, fetch(0, 99, 1, 2, (0, 0), UNWRITTEN), (0, 0), STORES)
        self.refused(Stuck, reckoned, fetch(3, 0, 1, 1, (0, 0), OUTSIDE), (0, 0), STORES)
        self.refused(NotReady, reckoned, fetch(3, 0, 1, 1, (0, 0), NUM), (0, 0), STORES)
        self.refused(Stuck, reckoned, fetch(0, 8, 1, 1, (0, 0), NUM), (0, 0), STORES)
        self.refused(Stuck, reckoned, fetch(0, -1, 1, 1, (0, 0), NUM), (0, 0), STORES)
        self.refused(Stuck, reckoned, fetch(0, 7, 1, 4, (0, 0), NUM), (0, 0), STORES)
        self.refused(Stuck, reckoned, ("pair", "add", fetch(0, 99, 1, 2, (0, 0), NUM), UNWRITTEN), (0, 0), STORES)
        self.refused(NotReady, reckoned, ("pair", "add", fetch(3, 0, 1, 1, (0, 0), NUM), OUTSIDE), (0, 0), STORES)

    def test_the_row_of_a_fetch_that_is_asked_alone(self):
        # Other rows may be outside or not written.
        self.told(fetch(3, 0, 1, 9, (0, 0), ("num", 1)), (0, 0), 5, 1)
        self.refused(NotReady, reckoned, fetch(3, 0, 1, 9, (0, 0), ("num", 2)), (0, 0), STORES)
        self.refused(Stuck, reckoned, fetch(3, 0, 1, 9, (0, 0), ("num", 3)), (0, 0), STORES)

    def test_within_a_fold_the_first_coordinate_goes_first(self):
        self.refused(Stuck, reckoned, fold("add", 2, ("read", 3, -1, (1,))), (), STORES)
        self.refused(NotReady, reckoned, fold("add", 5, ("read", 3, 1, (1,))), (), STORES)
        self.refused(NotReady, reckoned, fold("add", 5, ("read", 3, 0, (-1,))), (), STORES)
        self.refused(Stuck, reckoned, fold("add", 5, ("read", 3, 1, (-2,))), (), STORES)

    def test_what_is_handed_in_stays(self):
        stores = copy.deepcopy(STORES)
        tree = fold("add", 2, ("pick", in_fold(READ), ("index", 0, (1, 1, 1)), fetch(0, 1, 2, 3, (0, 0, 0), NUM)))
        before = copy.deepcopy(tree)
        reckoned(tree, (0, 1), stores)
        common.outcome(reckoned, UNWRITTEN, (0, 0), stores)
        self.assertEqual((tree, stores), (before, STORES))


def in_fold(tree):
    """A read with a stride of nought for one coordinate more."""
    return tree[:3] + (tree[3] + (0,),)


class Deep(unittest.TestCase):
    def asked(self, tree, number, calls):
        self.assertEqual(reckoned(tree, (), ([5],)), (number, calls))
        self.assertEqual(calls_of(tree), calls)
        self.assertEqual(stores_of(tree), [0])
        self.assertEqual(remade(tree, lambda start, strides: (start, strides)), tree)

    def test_trees_a_hundred_deep(self):
        first = ("read", 0, 0, ())
        each, left, right, pick, fetched = first, first, first, first, first
        for level in range(120):
            each = ("each", "neg", each)
            left = ("pair", "add", left, NUM)
            right = ("pair", "add", NUM, right)
            pick = ("pick", NUM, pick, NUM)
            fetched = fetch(0, 0, 1, 1, (), fetched)
        for tree, number in ((each, 5), (left, 365), (right, 365), (pick, 5), (fetched, 5)):
            self.asked(tree, number, 120)

    def test_folds_a_hundred_deep(self):
        tree = ("read", 0, 0, (0,) * 120)
        for level in range(120):
            tree = fold("add", 1, tree)
        self.asked(tree, 5, 120)
        for level in range(7):
            tree = fold("add", 2, remade(tree, lambda start, strides: (start, strides + (0,))))
        self.assertEqual(reckoned(tree, (), ([5],))[0], 5 * 2**7)


def random_tree(chance, depth, many):
    """A tree for so many coordinates; its spots may be outside of the stores."""
    def strides():
        return tuple([chance.choice((0, 0, 0, 1, -1, 2)) for place in range(many)])

    form = chance.choice(("each", "pair", "pair", "pick", "fold", "fetch", "read")) if depth else "read"
    if form == "each":
        return ("each", chance.choice(ONE_WORDS), random_tree(chance, depth - 1, many))
    if form == "pair":
        return ("pair", chance.choice(TWO_WORDS)) + tuple([random_tree(chance, depth - 1, many) for place in range(2)])
    if form == "pick":
        return ("pick",) + tuple([random_tree(chance, depth - 1, many) for place in range(3)])
    if form == "fold":
        return fold(chance.choice(FOLD_WORDS), chance.randrange(4), random_tree(chance, depth - 1, many + 1))
    start = chance.randrange(1, 8)
    if form == "fetch":
        inner = random_tree(chance, depth - 1, many)
        return fetch(chance.randrange(2), start, chance.choice((0, 1, -1)), chance.randrange(1, 4), strides(), inner)
    return chance.choice((("num", chance.randrange(-3, 4)), ("index", start, strides()), ("read", 0, start, strides()),
                          ("read", 1, start, strides())))


def grown(tree):
    """A tree made into a function of coordinates and stores, which tells a number and counts in a list."""
    form = tree[0]

    def spot(start, strides, at):
        return start + sum([a * b for a, b in zip(at, strides, strict=True)])

    def at_spot(store, place):
        if place not in range(len(store)):
            raise Stuck("")
        if store[place] is None:
            raise NotReady("")
        return store[place]

    if form == "num":
        return lambda at, stores, made: tree[1]
    if form == "index":
        return lambda at, stores, made: spot(tree[1], tree[2], at)
    if form == "read":
        return lambda at, stores, made: at_spot(stores[tree[1]], spot(tree[2], tree[3], at))
    branches = [grown(part) for part in tree[1:] if isinstance(part, tuple) and part and isinstance(part[0], str)]

    def answer(at, stores, made):
        if form == "fold":
            number = neutral(tree[1])
            for k in range(tree[2]):
                number = twice(tree[1], number, branches[0](at + (k,), stores, made))
                made.append(form)
            return number
        told = [branch(at, stores, made) for branch in branches]
        made.append(form)
        if form == "each":
            return once(tree[1], told[0])
        if form == "pair":
            return twice(tree[1], told[0], told[1])
        if form == "pick":
            return told[1] if told[0] else told[2]
        return at_spot(stores[tree[1]], spot(tree[2], tree[5], at) + tree[3] * (told[0] % tree[4]))
    return answer


class ByChance(unittest.TestCase):
    def test_trees_by_chance(self):
        chance = random.Random(71)
        stores = (tuple(range(100, 110)), [4, 5, 6, 7, 8, None, 9, 10, 11, 12])
        kinds = {}
        for round_at in range(3000):
            tree = random_tree(chance, chance.randrange(5), 2)
            at = (chance.randrange(3), chance.randrange(3))
            made = []
            try:
                told = grown(tree)(at, stores, made), len(made)
                self.assertEqual(calls_of(tree), told[1])
            except LoomError as error:
                told = type(error)
            self.assertEqual(common.outcome(reckoned, tree, at, stores), told)
            kinds[told if isinstance(told, type) else None] = True
        self.assertEqual(len(kinds), 3)

    def test_remade_by_chance(self):
        """A tree remade by a shift of the first coordinate tells what it told there."""
        chance = random.Random(72)
        stores = (tuple(range(100, 120)), tuple(range(20)))
        for round_at in range(1500):
            tree = random_tree(chance, chance.randrange(5), 2)
            at = (chance.randrange(3), chance.randrange(3))
            shifted = remade(tree, lambda start, strides: (start + strides[0], strides))
            self.assertEqual(common.outcome(reckoned, shifted, at, stores),
                             common.outcome(reckoned, tree, (at[0] + 1, at[1]), stores))
            turned = remade(tree, lambda start, strides: (start, (strides[1], strides[0]) + strides[2:]))
            self.assertEqual(common.outcome(reckoned, turned, at, stores),
                             common.outcome(reckoned, tree, (at[1], at[0]), stores))


if __name__ == "__main__":
    unittest.main()
