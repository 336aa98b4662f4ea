"""Points 4.2 to 4.4 and the interface's part sideloom/writing.py."""

import itertools
import string
import unittest

from programs import AHEAD, AHEAD_ROWS, ROWS
from sideloom.writing import name_of, written


class Names(unittest.TestCase):
    def test_first_and_last_of_each_length(self):
        first = 0
        for length in range(1, 9):
            self.assertEqual(name_of(first), "a" * length)
            self.assertEqual(name_of(first + 1), "a" * (length - 1) + "b")
            first += 26**length
            self.assertEqual(name_of(first - 1), "z" * length)
            self.assertEqual(name_of(first - 2), "z" * (length - 1) + "y")

    def test_all_names_of_up_to_three_letters_in_order(self):
        k = 0
        for length in (1, 2, 3):
            for letters in itertools.product(string.ascii_lowercase, repeat=length):
                self.assertEqual(name_of(k), "".join(letters))
                k += 1

    def test_some_names(self):
        for k, name in ((25, "z"), (26, "aa"), (27, "ab"), (51, "az"), (52, "ba"), (701, "zz"), (702, "aaa"),
                        (728, "aba"), (1377, "azz"), (1378, "baa")):
            self.assertEqual(name_of(k), name)


class Written(unittest.TestCase):
    def test_rows_of_each_form(self):
        self.assertEqual(len({step[0] for step, row in ROWS}), 15)
        for step, row in ROWS:
            self.assertEqual(written((AHEAD + (step,), (4,))), AHEAD_ROWS + "e = " + row + "\nout e")

    def test_all_rows_in_one_text(self):
        steps = AHEAD + tuple([step for step, row in ROWS])
        names = list(string.ascii_lowercase) + ["aa", "ab", "ac", "ad", "ae", "af", "ag", "ah"]
        rows = [name + " = " + row for name, (step, row) in zip(names[4:], ROWS, strict=True)]
        self.assertEqual(written((steps, (33, 4, 4))), AHEAD_ROWS + "\n".join(rows) + "\nout ah e e")

    def test_one_step_and_eight_outs(self):
        self.assertEqual(written(((("num", 7),), (0,))), "a = num 7\nout a")
        self.assertEqual(written(((("num", 7),), (0,) * 8)), "a = num 7\nout a a a a a a a a")

    def test_forty_steps(self):
        rows = written((tuple([("num", k) for k in range(40)]), (39, 0))).split("\n")
        self.assertEqual(len(rows), 41)
        self.assertEqual(rows[25:27], ["z = num 25", "aa = num 26"])
        self.assertEqual(rows[39:], ["an = num 39", "out an a"])

    def test_names_that_are_handed_in(self):
        program = ((("in", (2,)), ("each", "neg", 0), ("pair", "add", 1, 0)), (2, 0, 1))
        text = "out = in 2\nin = each neg out\nzzzzzzzz = pair add in out\nout zzzzzzzz out in"
        self.assertEqual(written(program, ("out", "in", "zzzzzzzz")), text)
        text = "b = in 2\nc = each neg b\na = pair add c b\nout a b c"
        self.assertEqual(written(program, names=("b", "c", "a")), text)

    def test_none_for_names(self):
        program = ((("num", 1), ("each", "not", 0)), (1,))
        text = "a = num 1\nb = each not a\nout b"
        self.assertEqual(written(program, None), text)
        self.assertEqual(written(program), text)

    def test_nothing_is_kept_from_one_call_to_the_next(self):
        program = ((("num", 1), ("each", "not", 0)), (1,))
        written(program, ("x", "y"))
        self.assertEqual(written(program), "a = num 1\nb = each not a\nout b")


if __name__ == "__main__":
    unittest.main()
