"""Points 0.5, 0.6, 9.1 to 9.5 and the interface's part sideloom/whole.py."""

import copy
import random
import unittest

import common
from programs import ALL_FORMS, ALL_FORMS_INPUTS, inputs_for, random_programs
from sideloom.bench import Bench, bench_answers
from sideloom.checking import checked
from sideloom.costs import calls_told, plain_calls, plain_cells, writings_told
from sideloom.errors import BadStep, BadText, NotReady, Unlike
from sideloom.needs import needed
from sideloom.plain import answers
from sideloom.tidy import thinned
from sideloom.weave import woven
from sideloom.whole import answered, answered_plainly, report, told_ahead
from sideloom.writing import name_of, written

GRID = ((2, 3), (1, 2, 3, 4, 5, 6))
ROW = ((2,), (10, -20))
# Texts with their inputs, answers, sides and reports.
TEXTS = (
    ("a = num 5\nout a", (), [("a", ((), (5,)))], [("a", ())], "a\ncalls 0 of 0\ncells 1 of 1"),
    ("a = in 2 3\nout a", (GRID,), [("a", GRID)], [("a", (2, 3))], "a 2 3\ncalls 0 of 0\ncells 0 of 0"),
    ("grid = in 2 3\nsums = fold add grid 1\nout sums grid", (GRID,), [("sums", ((2,), (6, 15))), ("grid", GRID)],
     [("sums", (2,)), ("grid", (2, 3))], "grid 2 3\nsums 2\ncalls 6 of 6\ncells 2 of 2"),
    # Two steps alike, and one that nothing uses.
    ("in = in 2 3\nout = in 2\nb = pair add in out\nc = pair add in out\nd = pair mul b c\ne = each neg in\n"
     "out d out d",
     (GRID, ROW), [("d", ((2, 3), (121, 144, 169, 256, 225, 196))), ("out", ROW),
                   ("d", ((2, 3), (121, 144, 169, 256, 225, 196)))],
     [("d", (2, 3)), ("out", (2,)), ("d", (2, 3))],
     "in 2 3\nout 2\nb 2 3\nc 2 3\nd 2 3\ne 2 3\ncalls 12 of 24\ncells 12 of 24"),
    # A flip undone, which is called by its own name all the same.
    ("a = in 2\nb = flip a 0\nc = flip b 0\nout c b a", (ROW,), [("c", ROW), ("b", ((2,), (-20, 10))), ("a", ROW)],
     [("c", (2,)), ("b", (2,)), ("a", (2,))], "a 2\nb 2\nc 2\ncalls 0 of 0\ncells 2 of 4"),
    ("a = in 0 3\nb = fold max a 0\nc = fold max a 1\nout b c", (((0, 3), ()),),
     [("b", ((3,), (common.LEAST,) * 3)), ("c", ((0,), ()))], [("b", (3,)), ("c", (0,))],
     "a 0 3\nb 3\nc 0\ncalls 0 of 0\ncells 3 of 3"),
)
GOOD = "a = in 2\nb = each neg a\nout b"
UNREAD = "a = in 2\nb = each neg c\nout b"
FAULTY = "a = in 2\nb = flip a 1\nout b"
FITTING = (((2,), (1, 2)),)
NOT_FITTING = ((), (((3,), (1, 2, 3)),), (((2,), (1, 2)),) * 2, (((2, 1), (1, 2)),))


class Texts(unittest.TestCase):
    def test_answers_sides_and_reports(self):
        for text, inputs, tables, sides, rows in TEXTS:
            self.assertEqual(answered(text, inputs), tables)
            self.assertEqual(answered_plainly(text, inputs), tables)
            self.assertEqual(told_ahead(text), sides)
            self.assertEqual(report(text), rows)

    def test_kinds(self):
        for text, inputs, tables, sides, rows in TEXTS:
            for told in (answered(text, inputs), answered_plainly(text, inputs), told_ahead(text)):
                self.assertIs(type(told), list)
                self.assertEqual([type(pair) for pair in told], [tuple] * len(told))
            self.assertIs(type(report(text)), str)

    def test_lists_are_the_askers_own(self):
        for function, args in ((answered, (GOOD, FITTING)), (answered_plainly, (GOOD, FITTING)), (told_ahead, (GOOD,))):
            before = function(*args)
            told = function(*args)
            told.append(9)
            self.assertEqual(function(*args), before)

    def test_a_report_of_no_calls_saved(self):
        text = "a = in 2 3\nb = each neg a\nc = each abs b\nd = turn c 1 0\ne = run add d 0\nout e c"
        self.assertEqual(report(text), "a 2 3\nb 2 3\nc 2 3\nd 3 2\ne 3 2\ncalls 18 of 18\ncells 12 of 24")

    def test_a_report_of_steps_that_are_not_live(self):
        text = "a = in 2\nb = each neg a\nc = count 0 3\nd = fetch c a\nout b"
        self.assertEqual(report(text), "a 2\nb 2\nc 3\nd 2\ncalls 2 of 4\ncells 2 of 7")

    def test_what_is_handed_in_stays(self):
        inputs = copy.deepcopy(FITTING)
        answered(GOOD, inputs)
        answered_plainly(GOOD, inputs)
        self.assertEqual(inputs, FITTING)


class Refused(common.Refusing):
    def bad_text(self, row, function, *args):
        with self.assertRaises(BadText) as taken:
            function(*args)
        self.assertEqual(taken.exception.row, row)

    def bad_step(self, fault, function, *args):
        with self.assertRaises(BadStep) as taken:
            function(*args)
        self.assertEqual((taken.exception.at, taken.exception.why), fault)

    def test_texts_that_can_not_be_read(self):
        for text, row in ((UNREAD, 2), ("", 1), (GOOD + "\n", 3), (FAULTY + " c", 3),
                          ("a = in 513\nb = in 2 \nout a", 2)):
            for inputs in NOT_FITTING + (FITTING,):
                self.bad_text(row, answered, text, inputs)
                self.bad_text(row, answered_plainly, text, inputs)
            self.bad_text(row, told_ahead, text)
            self.bad_text(row, report, text)

    def test_programs_that_are_not_good(self):
        for text, fault in ((FAULTY, (1, "side")), ("a = in 513\nout a", (0, "large")),
                            ("a = in 2\nb = each add a\nout a", (1, "word")),
                            ("a = in 2\nb = in 3\nc = pair add a b\nd = flip a 9\nout a", (2, "unlike")),
                            ("a = in 2\nb = cut a 0 0 3 1\nout a", (1, "beyond"))):
            for inputs in NOT_FITTING + (FITTING,):
                self.bad_step(fault, answered, text, inputs)
                self.bad_step(fault, answered_plainly, text, inputs)
            self.bad_step(fault, told_ahead, text)
            self.bad_step(fault, report, text)

    def test_steps_that_would_be_thinned_out_are_looked_at(self):
        text = "a = in 2\nb = flip a 3\nc = num 1\nout c"
        self.bad_step((1, "side"), answered, text, FITTING)
        self.bad_step((1, "side"), report, text)

    def test_inputs_that_do_not_fit(self):
        for inputs in NOT_FITTING:
            self.refused(Unlike, answered, GOOD, inputs)
            self.refused(Unlike, answered_plainly, GOOD, inputs)
        # An input of other sides with as many cells, and one that nothing uses.
        self.refused(Unlike, answered, "a = in 2\nb = num 1\nout b", (((1, 2), (1, 2)),))
        self.refused(Unlike, answered, "a = in 2\nb = num 1\nout b", ())
        self.refused(Unlike, answered, "a = num 1\nout a", FITTING)


class Promised(unittest.TestCase):
    """What one may count on over the whole."""

    def asked(self, program, inputs, names):
        text = written(program, names)
        told = answers(program, inputs)
        pairs = [(names[out], tab) for out, tab in zip(program[1], told, strict=True)]
        self.assertEqual(answered(text, inputs), pairs)
        self.assertEqual(answered_plainly(text, inputs), pairs)
        self.assertEqual(told_ahead(text), [(name, tab[0]) for name, tab in pairs])
        weft = woven(thinned(program)[0])
        rows = [" ".join([name] + [str(side) for side in own]) for name, own in zip(names, checked(program))]
        rows.append("calls " + str(calls_told(weft)) + " of " + str(plain_calls(program)))
        rows.append("cells " + str(writings_told(weft)) + " of " + str(plain_cells(program)))
        self.assertEqual(report(text), "\n".join(rows))
        self.assertLessEqual(calls_told(weft), plain_calls(program))
        self.assertLessEqual(writings_told(weft), plain_cells(program))
        return weft, told

    def orders(self, weft, inputs, told, chance):
        for order in (lambda left: len(left) - 1, lambda left: chance.randrange(len(left))):
            self.assertEqual(bench_answers(weft, inputs, order), told)
        bench = Bench(weft, inputs)
        left = bench.left()
        while left:
            chance.shuffle(left)
            outcomes = [(pair, common.outcome(bench.do, pair[0], pair[1])) for pair in left]
            self.assertLessEqual({outcome for pair, outcome in outcomes}, {True, NotReady})
            left = [pair for pair, outcome in outcomes if outcome is NotReady]
        self.assertEqual(bench.calls_made(), calls_told(weft))
        self.assertEqual(len(bench.log_told()), writings_told(weft))
        self.assertEqual(bench.answers_told(), told)

    def test_all_fifteen_forms(self):
        names = tuple([name_of(k) for k in range(18)])
        weft, told = self.asked(ALL_FORMS, ALL_FORMS_INPUTS, names)
        self.orders(weft, ALL_FORMS_INPUTS, told, random.Random(91))

    def test_programs_by_chance(self):
        chance = random.Random(92)
        for program in random_programs(93, 250, 24):
            names = tuple([name_of(k) for k in chance.sample(range(30000), len(program[0]))])
            inputs = inputs_for(program)
            weft, told = self.asked(program, inputs, names)
            self.orders(weft, inputs, told, chance)

    def test_cells_that_are_not_needed(self):
        for program in random_programs(94, 25, 12) + [ALL_FORMS]:
            program = (program[0], program[1][:2])
            inputs = inputs_for(program, 2)
            text = written(program)
            before = answered(text, inputs)
            for number, handed in enumerate(inputs):
                for here in range(len(handed[1])):
                    cells = handed[1][:here] + (handed[1][here] ^ 5,) + handed[1][here + 1:]
                    after = answered(text, inputs[:number] + ((handed[0], cells),) + inputs[number + 1:])
                    for out, (name, tab) in enumerate(after):
                        self.unlike_only_where_needed(program, out, (number, here), tab[1], before[out][1][1])

    def unlike_only_where_needed(self, program, out, pair, cells, before):
        for place, (number, other) in enumerate(zip(cells, before, strict=True)):
            if number != other:
                self.assertIn(pair, needed(program, out, place))

    def test_forty_steps_of_all_breadth(self):
        steps = (("in", (2, 2, 2, 2, 2, 16)),) + tuple([("pair", "add", k, 0) for k in range(39)])
        program = (steps, (39,))
        inputs = inputs_for(program)
        self.assertEqual(answered(written(program), inputs), answered_plainly(written(program), inputs))


if __name__ == "__main__":
    unittest.main()
