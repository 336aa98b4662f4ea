"""Points 0.5, 0.6, 8.1 to 8.6 and the interface's part sideloom/bench.py."""

import copy
import random
import unittest
import unittest.mock

import common
from common import GREAT
from programs import ALL_FORMS, ALL_FORMS_INPUTS, NO_INPUTS, inputs_for, random_programs
from sideloom.bench import Bench, bench_answers
from sideloom.costs import calls_told, plain_calls, plain_cells, writings_told
from sideloom.errors import NoRound, NotDone, NotReady, Stuck, Unlike
from sideloom.figures import neutral
from sideloom.plain import answers
from sideloom.weave import woven


def read(store, start, *strides):
    return ("read", store, start, strides)


def fill(store, sides, start, strides, tree):
    return ("fill", store, sides, start, strides, tree)


# Store 0 is handed in; loop 0 writes store 1 from it, loop 1 writes store 2 from both, store 1 backwards.
CHAIN = (
    ((0, 2), (1, 2), (2, 2)),
    (
        fill(1, (2,), 0, (1,), ("each", "neg", read(0, 0, 1))),
        fill(2, (2,), 0, (1,), ("pair", "sub", read(1, 1, -1), read(0, 0, 1))),
    ),
    ((2, (2,)), (1, (1, 2)), (0, (2,))),
)
CHAIN_INPUTS = (((2,), (5, 7)),)
CHAIN_ANSWERS = (((2,), (-12, -12)), ((1, 2), (-5, -7)), ((2,), (5, 7)))
# A run along the second side of a table of two rows.
RUN = (((0, 6), (1, 6)), (("run", "add", 1, (2,), 3, 0, (3, 1), ("each", "neg", read(0, 0, 3, 1))),), ((1, (2, 3)),))
RUN_INPUTS = (((2, 3), (1, 2, 3, 4, 5, 6)),)


def told_of(bench, stores):
    """All that can be asked of a bench with so many stores."""
    return (bench.left(), bench.calls_made(), bench.log_told(), [bench.store(k) for k in range(stores)])


class Made(common.Refusing):
    def test_stores(self):
        bench = Bench(CHAIN, CHAIN_INPUTS)
        self.assertEqual([bench.store(k) for k in range(3)], [[5, 7], [None, None], [None, None]])
        self.assertEqual(bench.left(), [(0, 0), (0, 1), (1, 0), (1, 1)])
        self.assertEqual(bench.calls_made(), 0)
        self.assertEqual(bench.log_told(), [])
        for told in (bench.store(0), bench.left(), bench.log_told()):
            self.assertIs(type(told), list)

    def test_inputs_go_to_the_stores_that_no_loop_writes(self):
        weft = (((7, 1), (3, 2), (9, 3)), (fill(1, (2,), 0, (1,), ("num", 4)),), ((1, (2,)),))
        bench = Bench(weft, (((), (1,)), ((3,), (7, 8, 9))))
        self.assertEqual([bench.store(k) for k in range(3)], [[1], [None, None], [7, 8, 9]])

    def test_a_run_writes_its_store_too(self):
        self.assertEqual(Bench(RUN, RUN_INPUTS).store(1), [None] * 6)
        self.refused(Unlike, Bench, RUN, RUN_INPUTS * 2)

    def test_inputs_that_do_not_fit(self):
        two = (((0, 2), (1, 3), (2, 1)), (fill(2, (), 0, (), ("num", 1)),), ((2, ()),))
        good = (((2,), (1, 2)), ((3,), (1, 2, 3)))
        Bench(two, good)
        for inputs in ((), good[:1], good[1:], good + good[:1], good + (((), (1,)),), (good[1], good[0]),
                       (((1,), (1,)), good[1]), (((3,), (1, 2, 3)), good[1]), (good[0], ((2,), (1, 2))),
                       (good[0], ((4,), (1, 2, 3, 4))), (((0,), ()), good[1])):
            self.refused(Unlike, Bench, two, inputs)
            self.refused(Unlike, bench_answers, two, inputs)

    def test_only_the_number_of_an_inputs_cells_is_asked(self):
        self.assertEqual(Bench(CHAIN, (((1, 2), (5, 7)),)).store(0), [5, 7])
        self.assertEqual(bench_answers(CHAIN, (((1, 2), (5, 7)),)), CHAIN_ANSWERS)

    def test_no_stores_at_all(self):
        bench = Bench(((), (), ()), ())
        self.assertEqual((bench.left(), bench.answers_told()), ([], ()))


class Doing(common.Refusing):
    def unchanged(self, kind, bench, stores, loop, round_at):
        """The round is refused, and all that can be asked of the bench stays."""
        before = told_of(bench, stores)
        self.refused(kind, bench.do, loop, round_at)
        self.assertEqual(told_of(bench, stores), before)


class Rounds(Doing):
    def test_forwards(self):
        bench = Bench(CHAIN, CHAIN_INPUTS)
        left = bench.left()
        for k, (loop, round_at) in enumerate(left):
            self.refused(NotDone, bench.answers_told)
            self.assertEqual(bench.left(), left[k:])
            self.assertIs(bench.do(loop, round_at), True)
            self.assertEqual(bench.calls_made(), k + 1)
        self.assertEqual(bench.left(), [])
        self.assertEqual(bench.answers_told(), CHAIN_ANSWERS)
        self.assertEqual(bench.log_told(), [(0, 0, 1, 0, -5), (0, 1, 1, 1, -7), (1, 0, 2, 0, -12), (1, 1, 2, 1, -12)])
        self.assertEqual([bench.store(k) for k in range(3)], [[5, 7], [-5, -7], [-12, -12]])

    def test_a_round_that_is_not_ready_is_done_later(self):
        bench = Bench(CHAIN, CHAIN_INPUTS)
        self.unchanged(NotReady, bench, 3, 1, 0)
        self.unchanged(NotReady, bench, 3, 1, 1)
        self.assertIs(bench.do(0, 1), True)
        self.unchanged(NotReady, bench, 3, 1, 1)
        self.assertIs(bench.do(1, 0), True)
        self.assertEqual(bench.left(), [(0, 0), (1, 1)])
        self.assertEqual([bench.store(k) for k in range(3)], [[5, 7], [None, -7], [-12, None]])
        self.assertEqual(bench.calls_made(), 2)
        self.unchanged(NotReady, bench, 3, 1, 1)
        bench.do(0, 0)
        bench.do(1, 1)
        self.assertEqual(bench.log_told(), [(0, 1, 1, 1, -7), (1, 0, 2, 0, -12), (0, 0, 1, 0, -5), (1, 1, 2, 1, -12)])
        self.assertEqual(bench.answers_told(), CHAIN_ANSWERS)

    def test_rounds_that_are_not_there(self):
        bench = Bench(CHAIN, CHAIN_INPUTS)
        for loop in (-GREAT, -2, -1, 2, 3, GREAT):
            for round_at in (0, 1, -1, 7):
                self.unchanged(NoRound, bench, 3, loop, round_at)
        for loop in (0, 1):
            for round_at in (-GREAT, -2, -1, 2, 3, GREAT):
                self.unchanged(NoRound, bench, 3, loop, round_at)

    def test_a_round_done_twice(self):
        bench = Bench(CHAIN, CHAIN_INPUTS)
        bench.do(0, 1)
        self.unchanged(NoRound, bench, 3, 0, 1)
        bench.do(0, 0)
        self.unchanged(NoRound, bench, 3, 0, 0)
        self.unchanged(NoRound, bench, 3, 0, 1)
        bench.do(1, 1)
        self.unchanged(NoRound, bench, 3, 1, 1)
        self.assertEqual(bench.left(), [(1, 0)])

    def test_a_rounds_number_is_the_place_of_its_coordinates(self):
        weft = (((0, 6),), (fill(0, (2, 3), 0, (1, 2), ("index", 0, (10, 1))),), ((0, (3, 2)),))
        bench = Bench(weft, ())
        bench.do(0, 5)
        bench.do(0, 1)
        self.assertEqual(bench.log_told(), [(0, 5, 0, 5, 12), (0, 1, 0, 2, 1)])
        self.assertEqual(bench_answers(weft, ()), (((3, 2), (0, 10, 1, 11, 2, 12)),))

    def test_lists_that_were_told_stay(self):
        bench = Bench(CHAIN, CHAIN_INPUTS)
        bench.do(0, 0)
        told = told_of(bench, 3)
        before = copy.deepcopy(told)
        bench.do(0, 1)
        bench.do(1, 0)
        self.assertEqual(told, before)

    def test_lists_that_were_told_may_be_changed(self):
        bench = Bench(CHAIN, CHAIN_INPUTS)
        bench.do(0, 0)
        before = copy.deepcopy(told_of(bench, 3))
        bench.left().clear()
        bench.log_told().append(9)
        for k in range(3):
            bench.store(k)[0] = 99
        self.assertEqual(told_of(bench, 3), before)

    def test_two_benches_are_apart(self):
        one = Bench(CHAIN, CHAIN_INPUTS)
        other = Bench(CHAIN, CHAIN_INPUTS)
        before = told_of(other, 3)
        for loop, round_at in one.left():
            one.do(loop, round_at)
        self.assertEqual(told_of(other, 3), before)


class Runs(Doing):
    def test_a_run(self):
        bench = Bench(RUN, RUN_INPUTS)
        self.assertEqual(bench.left(), [(0, 0), (0, 1)])
        bench.do(0, 1)
        self.assertEqual(bench.store(1), [None, None, None, -4, -9, -15])
        self.assertEqual(bench.calls_made(), 6)
        self.assertEqual(bench.log_told(), [(0, 1, 1, 3, -4), (0, 1, 1, 4, -9), (0, 1, 1, 5, -15)])
        self.unchanged(NoRound, bench, 2, 0, 1)
        bench.do(0, 0)
        self.assertEqual(bench.answers_told(), (((2, 3), (-1, -3, -6, -4, -9, -15)),))
        self.assertEqual(bench.calls_made(), 12)

    def test_a_run_begins_with_the_neutral_number(self):
        for word in ("add", "mul", "max", "min", "and", "or", "xor"):
            weft = (((0, 2), (1, 2)), (("run", word, 1, (), 2, 0, (1,), read(0, 0, 1)),), ((1, (2,)),))
            self.assertEqual(bench_answers(weft, (((2,), (-6, -6)),))[0][1][0], -6)

    def test_what_comes_so_far_is_the_first_of_the_two_numbers(self):
        # None of the words that fold lets the order be seen, so another function is put in their place.
        with unittest.mock.patch("sideloom.bench.twice", lambda word, x, y: 10 * x + y):
            weft = (((0, 3), (1, 3)), (("run", "mul", 1, (), 3, 0, (1,), read(0, 0, 1)),), ((1, (3,)),))
            self.assertEqual(bench_answers(weft, (((3,), (2, 3, 4)),)), (((3,), (12, 123, 1234)),))

    def test_a_run_along_a_side_of_nought(self):
        weft = (((0, 0), (1, 0)), (("run", "add", 1, (2,), 0, 0, (0, 1), read(0, 0, 0, 1)),), ((1, (2, 0)),))
        bench = Bench(weft, (((2, 0), ()),))
        self.assertEqual(bench.left(), [(0, 0), (0, 1)])
        self.refused(NotDone, bench.answers_told)
        self.assertIs(bench.do(0, 1), True)
        self.assertEqual((bench.left(), bench.log_told(), bench.calls_made()), ([(0, 0)], [], 0))
        self.unchanged(NoRound, bench, 2, 0, 1)
        self.unchanged(NoRound, bench, 2, 0, 2)
        bench.do(0, 0)
        self.assertEqual(bench.answers_told(), (((2, 0), ()),))

    def test_a_run_over_a_side_of_nought(self):
        weft = (((0, 0), (1, 0)), (("run", "add", 1, (0,), 2, 0, (1, 0), read(0, 0, 1, 0)),), ((1, (2, 0)),))
        bench = Bench(weft, (((2, 0), ()),))
        self.assertEqual(bench.left(), [])
        self.unchanged(NoRound, bench, 2, 0, 0)
        self.assertEqual(bench.answers_told(), (((2, 0), ()),))

    def test_a_run_that_is_not_ready_half_way(self):
        weft = (((0, 1), (1, 2), (2, 2)), (
            fill(1, (2,), 0, (1,), read(0, 0, 0)),
            ("run", "add", 2, (), 2, 0, (1,), ("each", "neg", read(1, 0, 1))),
        ), ((2, (2,)),))
        bench = Bench(weft, (((), (4,)),))
        bench.do(0, 0)
        self.unchanged(NotReady, bench, 3, 1, 0)
        bench.do(0, 1)
        bench.do(1, 0)
        self.assertEqual(bench.answers_told(), (((2,), (-4, -8)),))
        self.assertEqual(bench.calls_made(), 4)

    def test_a_run_reads_ahead_of_any_writing(self):
        # It reads its own store at the place that it would write one step earlier.
        weft = (((0, 1), (1, 3)), (
            fill(1, (), 0, (), read(0, 0)),
            ("run", "add", 1, (), 2, 1, (1,), read(1, 0, 1)),
        ), ((1, (3,)),))
        bench = Bench(weft, (((), (4,)),))
        bench.do(0, 0)
        self.unchanged(NotReady, bench, 2, 1, 0)
        self.refused(NotReady, bench_answers, weft, (((), (4,)),))


class StuckRounds(Doing):
    def stuck(self, weft, inputs, loop, round_at, ahead=()):
        bench = Bench(weft, inputs)
        for done in ahead:
            bench.do(done[0], done[1])
        self.unchanged(Stuck, bench, len(weft[0]), loop, round_at)
        self.unchanged(Stuck, bench, len(weft[0]), loop, round_at)
        self.assertIn((loop, round_at), bench.left())

    def test_a_writing_outside_of_its_store(self):
        weft = (((0, 2),), (fill(0, (3,), 0, (1,), ("num", 1)),), ())
        self.stuck(weft, (), 0, 2)
        self.stuck(weft, (), 0, 2, ((0, 0), (0, 1)))
        self.stuck((((0, 2),), (fill(0, (2,), -1, (1,), ("num", 1)),), ()), (), 0, 0)
        self.stuck((((0, 0),), (fill(0, (), 0, (), ("num", 1)),), ()), (), 0, 0)
        self.stuck((((0, 2),), (fill(0, (2,), 1, (-2,), ("num", 1)),), ()), (), 0, 1)

    def test_a_place_that_is_written_already(self):
        weft = (((0, 2),), (fill(0, (2,), 0, (0,), ("num", 1)),), ())
        self.stuck(weft, (), 0, 1, ((0, 0),))
        self.stuck(weft, (), 0, 0, ((0, 1),))
        two = (((0, 2),), (fill(0, (2,), 0, (1,), ("num", 1)), fill(0, (2,), 0, (1,), ("num", 1))), ())
        self.stuck(two, (), 1, 1, ((0, 1),))
        # What stands there counts as written though it is nought or alike.
        nought = (((0, 1),), (fill(0, (2,), 0, (0,), ("num", 0)),), ())
        self.stuck(nought, (), 0, 1, ((0, 0),))

    def test_a_place_written_twice_by_one_round(self):
        weft = (((0, 3),), (("run", "add", 0, (), 2, 1, (0,), ("num", 1)),), ())
        self.stuck(weft, (), 0, 0)
        weft = (((0, 3),), (("run", "add", 0, (2,), 2, 0, (1, 0), ("num", 1)),), ())
        self.stuck(weft, (), 0, 0)
        self.stuck(weft, (), 0, 1)

    def test_a_run_that_writes_outside_half_way(self):
        weft = (((0, 3),), (("run", "add", 0, (), 4, 0, (1,), ("num", 1)),), ())
        self.stuck(weft, (), 0, 0)
        weft = (((0, 3),), (("run", "add", 0, (), 4, 2, (-1,), ("num", 1)),), ())
        self.stuck(weft, (), 0, 0)

    def test_a_run_that_meets_a_written_place_half_way(self):
        weft = (((0, 3),), (fill(0, (), 2, (), ("num", 1)), ("run", "add", 0, (), 3, 0, (1,), ("num", 1))), ())
        self.stuck(weft, (), 1, 0, ((0, 0),))
        self.stuck(weft, (), 0, 0, ((1, 0),))

    def test_a_reading_outside_of_its_store(self):
        inputs = (((2,), (1, 2)),)
        for tree in (read(0, 2, 0), read(0, -1, 0), read(0, 2, 1), ("each", "neg", read(0, 2, 0)),
                     ("fetch", 0, 1, 1, 2, (0,), ("num", 1)), ("fold", "add", 3, read(0, 0, 0, 1))):
            self.stuck((((0, 2), (1, 1)), (fill(1, (1,), 0, (0,), tree),), ()), inputs, 0, 0)
            self.stuck((((0, 2), (1, 1)), (("run", "add", 1, (), 1, 0, (0,), tree),), ()), inputs, 0, 0)
        self.stuck((((0, 2), (1, 3)), (("run", "add", 1, (), 3, 0, (1,), read(0, 0, 1)),), ()), inputs, 0, 0)

    def test_readings_go_ahead_of_writings(self):
        # Each would write outside of its store, or where something stands.
        weft = (((0, 1), (1, 1), (2, 1)), (
            fill(1, (), 0, (), ("num", 1)),
            fill(2, (), 5, (), read(1, 0)),
            ("run", "add", 2, (), 2, 5, (0,), read(1, 0, 0)),
        ), ())
        bench = Bench(weft, (((), (1,)),))
        self.unchanged(NotReady, bench, 3, 1, 0)
        self.unchanged(NotReady, bench, 3, 2, 0)
        bench.do(0, 0)
        self.unchanged(Stuck, bench, 3, 1, 0)
        self.unchanged(Stuck, bench, 3, 2, 0)

    def test_no_round_goes_ahead_of_all(self):
        weft = (((0, 1), (1, 1)), (fill(0, (), 5, (), read(1, 0)), fill(1, (), 9, (), ("num", 1))), ())
        bench = Bench(weft, ())
        self.unchanged(NotReady, bench, 2, 0, 0)
        self.unchanged(NoRound, bench, 2, 0, 1)
        self.unchanged(Stuck, bench, 2, 1, 0)
        self.unchanged(NoRound, bench, 2, 1, 1)

    def test_whichever_is_met_first_by_a_run(self):
        stores = ((0, 2), (1, 2), (2, 2))
        late, outside = read(1, 0, 0), read(0, 9, 0)
        inputs = (((2,), (1, 2)),)
        for tree, kind in ((("pair", "add", late, outside), NotReady), (("pair", "add", outside, late), Stuck)):
            weft = (stores, (fill(1, (2,), 0, (1,), ("num", 1)), ("run", "add", 2, (), 2, 0, (1,), tree)), ())
            self.unchanged(kind, Bench(weft, inputs), 3, 1, 0)
        # The first coordinate reads outside of the store, the second what is not written, and the other way round.
        for tree, kind in ((read(1, -1, 1), Stuck), (read(1, 0, -1), NotReady)):
            weft = (stores, (fill(1, (2,), 0, (1,), ("num", 1)), ("run", "add", 2, (), 2, 0, (1,), tree)), ())
            self.unchanged(kind, Bench(weft, inputs), 3, 1, 0)


class Recording(Bench):
    """A bench that tells which rounds were tried, done or not."""

    tried = []

    def do(self, loop, round_at):
        self.tried.append((loop, round_at))
        return super().do(loop, round_at)


class Answers(common.Refusing):
    def tried(self, order):
        Recording.tried.clear()
        with unittest.mock.patch("sideloom.bench.Bench", Recording):
            self.assertEqual(bench_answers(CHAIN, CHAIN_INPUTS, order), CHAIN_ANSWERS)
        return list(Recording.tried)

    def test_which_rounds_are_tried(self):
        self.assertEqual(self.tried(None), [(0, 0), (0, 1), (1, 0), (1, 1)])
        self.assertEqual(self.tried(lambda left: 0), [(0, 0), (0, 1), (1, 0), (1, 1)])
        self.assertEqual(self.tried(lambda left: -1), [(1, 1), (0, 0), (1, 1), (1, 0), (0, 1), (1, 0)])
        self.assertEqual(self.tried(lambda left: 2), [(1, 0), (1, 1), (0, 0), (1, 1), (0, 1), (1, 0)])

    def test_bench_answers(self):
        self.assertEqual(bench_answers(CHAIN, CHAIN_INPUTS), CHAIN_ANSWERS)
        self.assertEqual(bench_answers(CHAIN, CHAIN_INPUTS, None), CHAIN_ANSWERS)
        self.assertEqual(bench_answers(RUN, RUN_INPUTS, order=None), (((2, 3), (-1, -3, -6, -4, -9, -15)),))
        self.assertIs(type(bench_answers(CHAIN, CHAIN_INPUTS)), tuple)

    def test_orders(self):
        for number in (0, 1, 2, 3, 4, 5, -1, -2, -5, GREAT, -GREAT, 10**20 + 3):
            self.assertEqual(bench_answers(CHAIN, CHAIN_INPUTS, lambda left: number), CHAIN_ANSWERS)

    def test_what_an_order_is_given(self):
        seen = []

        def last(left):
            seen.append(list(left))
            return -1
        bench_answers(CHAIN, CHAIN_INPUTS, last)
        # The last one is (1, 1), which waits for (0, 0): going round behind it, that is the first one.
        self.assertEqual(seen, [[(0, 0), (0, 1), (1, 0), (1, 1)], [(0, 1), (1, 0), (1, 1)], [(0, 1), (1, 0)], [(1, 0)]])

    def test_the_round_at_the_number_goes_first(self):
        seen = []

        def second(left):
            seen.append(list(left))
            return len(left) * 7 + 1
        bench_answers(CHAIN, CHAIN_INPUTS, second)
        # The third time (1, 1) still waits for (0, 0).
        self.assertEqual(seen, [[(0, 0), (0, 1), (1, 0), (1, 1)], [(0, 0), (1, 0), (1, 1)], [(0, 0), (1, 1)], [(1, 1)]])

    def test_the_list_that_an_order_is_given_is_its_own(self):
        kept = []

        def rough(left):
            kept.append(left)
            left.reverse()
            left.pop()
            return 0
        self.assertEqual(bench_answers(CHAIN, CHAIN_INPUTS, rough), CHAIN_ANSWERS)
        self.assertEqual([len(left) for left in kept], [3, 2, 1, 0])

    def test_no_rounds(self):
        def never(left):
            raise AssertionError("nothing is to be asked")
        weft = (((0, 2),), (), ((0, (2,)), (0, (1, 2))))
        self.assertEqual(bench_answers(weft, CHAIN_INPUTS, never), (((2,), (5, 7)), ((1, 2), (5, 7))))

    def test_not_ready(self):
        ring = (((0, 1), (1, 1), (2, 1)), (
            fill(0, (), 0, (), read(1, 0)),
            fill(1, (), 0, (), read(0, 0)),
            fill(2, (), 0, (), ("num", 1)),
        ), ())
        for order in (None, lambda left: 0, lambda left: 1, lambda left: -1):
            self.refused(NotReady, bench_answers, ring, (), order)

    def test_stuck(self):
        weft = (((0, 1), (1, 1)), (fill(0, (2,), 0, (1,), ("num", 1)), fill(1, (), 0, (), ("num", 1))), ())
        for order in (None, lambda left: 0, lambda left: 1, lambda left: -1):
            self.refused(Stuck, bench_answers, weft, (), order)

    def test_stuck_where_a_round_is_tried_alone(self):
        # The second loop waits for ever; the first is stuck. What is tried first is told.
        weft = (((0, 1), (1, 1)), (fill(0, (), 9, (), ("num", 1)), fill(1, (), 0, (), read(1, 0))), ())
        self.refused(Stuck, bench_answers, weft, ())
        self.refused(Stuck, bench_answers, weft, (), lambda left: 1)
        # A ready round is done ahead of one that is stuck, which is told once it is tried.
        seen = []

        def ready_first(left):
            seen.append(list(left))
            return 1
        weft = (((0, 1), (1, 1)), (fill(0, (), 9, (), ("num", 1)), fill(1, (), 0, (), ("num", 1))), ())
        self.refused(Stuck, bench_answers, weft, (), ready_first)
        self.assertEqual(seen, [[(0, 0), (1, 0)], [(0, 0)]])

    def test_what_is_handed_in_stays(self):
        weft = copy.deepcopy(CHAIN)
        inputs = copy.deepcopy(CHAIN_INPUTS)
        bench_answers(weft, inputs)
        self.assertEqual((weft, inputs), (CHAIN, CHAIN_INPUTS))

    def test_numbers_are_written_as_the_tree_tells_them(self):
        weft = (((0, 1),), (fill(0, (), 0, (), ("index", 2**70, ())),), ((0, ()),))
        self.assertEqual(bench_answers(weft, ()), (((), (2**70,)),))


class Promised(common.Refusing):
    """Points 0.5 and 8.3 for programs of all forms."""

    def order(self, chance):
        return lambda left: chance.randrange(-10**6, 10**6)

    def asked(self, program, inputs, chance):
        told = answers(program, inputs)
        weft = woven(program)
        for order in (None, lambda left: -1, lambda left: len(left) // 2, self.order(chance), self.order(chance)):
            self.assertEqual(bench_answers(weft, inputs, order), told)
        self.first_is_ready(weft, inputs, chance)
        bench = self.done_by_chance(weft, inputs, chance)
        self.assertEqual(bench.answers_told(), told)
        self.assertEqual(bench.calls_made(), calls_told(weft))
        self.assertLessEqual(bench.calls_made(), plain_calls(program))
        log = bench.log_told()
        self.assertEqual(len(log), writings_told(weft))
        self.assertLessEqual(len(log), plain_cells(program))
        places = [(store, place) for loop, round_at, store, place, number in log]
        self.assertEqual(len(places), len(set(places)))
        for loop, round_at, store, place, number in log:
            self.assertEqual(bench.store(store)[place], number)
        for k in range(len(weft[0])):
            self.assertNotIn(None, bench.store(k))

    def first_is_ready(self, weft, inputs, chance):
        """Whatever was done, the first round that is left is ready."""
        bench = Bench(weft, inputs)
        left = bench.left()
        while left:
            for turn in range(2):
                place = chance.randrange(len(left))
                if common.outcome(bench.do, left[place][0], left[place][1]) is True:
                    left.pop(place)
                    break
            else:
                self.assertIs(bench.do(left[0][0], left[0][1]), True)
                left.pop(0)
        self.assertEqual(bench.left(), [])

    def done_by_chance(self, weft, inputs, chance):
        """All rounds done in an order by chance; those that are refused are not ready, never stuck."""
        bench = Bench(weft, inputs)
        left = bench.left()
        while left:
            chance.shuffle(left)
            outcomes = [(pair, common.outcome(bench.do, pair[0], pair[1])) for pair in left]
            self.assertLessEqual({told for pair, told in outcomes}, {True, NotReady})
            left = [pair for pair, told in outcomes if told is NotReady]
        return bench

    def test_all_fifteen_forms(self):
        chance = random.Random(81)
        self.asked(ALL_FORMS, ALL_FORMS_INPUTS, chance)
        self.asked(NO_INPUTS, (), chance)
        for k in range(18):
            self.asked((ALL_FORMS[0], (k, 17 - k)), ALL_FORMS_INPUTS, chance)

    def test_programs_by_chance(self):
        chance = random.Random(82)
        for program in random_programs(83, 250):
            self.asked(program, inputs_for(program), chance)

    def test_neutral_numbers_of_empty_folds(self):
        for word in ("add", "mul", "max", "min", "and", "or", "xor"):
            program = ((("in", (2, 0)), ("fold", word, 0, 1)), (1,))
            self.assertEqual(bench_answers(woven(program), (((2, 0), ()),)), (((2,), (neutral(word),) * 2),))


if __name__ == "__main__":
    unittest.main()
