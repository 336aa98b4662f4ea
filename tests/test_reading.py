"""Points 4.2 to 4.6 and the interface's part sideloom/reading.py."""

import itertools
import random
import unittest

import common
from programs import AHEAD, AHEAD_ROWS, ROWS
from sideloom.errors import BadText
from sideloom.reading import number_of, read, small_of
from sideloom.writing import name_of, written

# Signs that Python takes for figures or blanks, but that write no number here.
OTHER_FIGURES = ("\u0661", "\u0967", "\uff15", "\u00b2", "\u2460", "\u00bd", "1\u0661", "\u06611", "-\u0661")
NO_NUMBERS = (
    "", " ", "-", "--1", "-0", "-00", "00", "007", "01", "-01", "-007", "+1", "+0", " 1", "1 ", "\t1", "1\t", "1\n",
    "\n1", "1 2", "1\t2", "1_0", "1.", "1.0", "1e1", "0x1", "a", "1a", "a1", "- 1", "1-", "-1-", "~", "=", "one",
    "0b1", "None", "9" * 4000, "-" * 4000, "0" * 4000, " " * 4000,
) + OTHER_FIGURES
WORDS_AT_FAULT = ("", "A", "aB", "abcdefghi", "a1", "1", "a-", "=", "a\t", "\ta", "a_b", "~",
                  "\u00e4", "\u0131", "\u00aa")


# Words that are no name, no number and no sign of a row.
NOWHERE_RIGHT = ("", "A", "abcdefghi", "a1", "1a", "a\t", "\ta", "1\t", "~", "00", "01", "-0", "+1", "1_0", "==", "--1",
                 "9" * 20, "\u0661", "\u00e4")


class Numbers(unittest.TestCase):
    def test_all_small_numbers(self):
        for number in range(1000):
            self.assertEqual(small_of(str(number)), number)
            self.assertEqual(number_of(str(number)), number)

    def test_small_numbers_have_one_to_three_figures(self):
        for word in ("1000", "9999", "1234", "10000", "9223372036854775807", "-1", "-12", "-999") + NO_NUMBERS:
            self.assertIsNone(small_of(word))

    def test_all_words_of_up_to_four_signs(self):
        for length in range(5):
            for signs in itertools.product("-019+ ", repeat=length):
                word = "".join(signs)
                plain = word.isdigit() and str(int(word)) == word
                below = word[:1] == "-" and word[1:].isdigit() and word != "-0" and str(int(word)) == word
                self.assertEqual(small_of(word), int(word) if plain and length <= 3 else None)
                self.assertEqual(number_of(word), int(word) if plain or below else None)

    def test_numbers_of_the_language(self):
        for number in (0, 1, -1, 7, -7, 10, -10, 1000, -1000, 10**18, -10**18, 10**18 - 1, 1 - 10**18,
                       common.GREATEST, common.GREATEST - 1, common.LEAST, common.LEAST + 1, 2**62, -2**62):
            self.assertEqual(number_of(str(number)), number)

    def test_beyond_the_bounds(self):
        for number in (2**63, -2**63 - 1, 2**63 + 1, 10**19 - 1, -10**19 + 1, 10**19, -10**19, 2**64, -2**64, 10**30):
            self.assertIsNone(number_of(str(number)))

    def test_nineteen_figures_with_noughts_ahead(self):
        self.assertIsNone(number_of("0" * 18 + "1"))
        self.assertIsNone(number_of("-" + "0" * 18 + "1"))
        self.assertIsNone(number_of("0" * 19))
        self.assertIsNone(number_of("0" * 20))

    def test_other_texts(self):
        for word in NO_NUMBERS:
            self.assertIsNone(number_of(word))

    def test_kinds(self):
        for word in ("0", "1", "12", "999"):
            self.assertIs(type(small_of(word)), int)
            self.assertIs(type(number_of(word)), int)


class Reading(common.Refusing):
    def bad(self, row, text):
        with self.assertRaises(BadText) as taken:
            read(text)
        self.assertIs(type(taken.exception), BadText)
        self.assertEqual(taken.exception.row, row, text)

    def bad_step(self, row):
        """A row at fault is told wherever it stands, and ahead of what is at fault behind it."""
        self.bad(5, AHEAD_ROWS + row + "\nout a")
        self.bad(5, AHEAD_ROWS + row + "\nx = nosuch\nout nosuch")
        self.bad(5, AHEAD_ROWS + row + "\n")


class Rows(Reading):
    def test_each_form(self):
        for step, row in ROWS:
            program = (AHEAD + (step,), (4, 0))
            self.assertEqual(read(AHEAD_ROWS + "x = " + row + "\nout x a"), (program, ("a", "b", "c", "d", "x")))

    def test_kinds(self):
        for step, row in ROWS:
            program, names = read(AHEAD_ROWS + "x = " + row + "\nout x a")
            self.assertEqual([type(program), type(program[0]), type(program[1]), type(names)], [tuple] * 4)
            self.assertEqual([type(part) for part in program[0][4]], [type(part) for part in step])
            self.assertIs(type(read(AHEAD_ROWS + "x = " + row + "\nout x a")), tuple)

    def test_each_word_of_a_row_at_fault(self):
        for step, row in ROWS:
            words = ("x = " + row).split(" ")
            for k in range(len(words)):
                for other in NOWHERE_RIGHT:
                    self.bad_step(" ".join(words[:k] + [other] + words[k + 1:]))

    def test_words_in_the_place_of_others(self):
        for step, row in ROWS:
            words = ("x = " + row).split(" ")
            for k, word in enumerate(words[3:], 3):
                if word in ("a", "b", "c", "d"):
                    others = ("x", "e", "0", "4", "in", "out", "neg")
                elif word.isalpha():
                    others = ("0", "1", "-1")
                elif step[0] == "num":
                    others = ("a", "b", "x", "9223372036854775808", "-9223372036854775809")
                else:
                    others = ("a", "b", "x", "1000", "-1", "12345")
                for other in others:
                    self.bad_step(" ".join(words[:k] + [other] + words[k + 1:]))

    def test_a_word_too_few(self):
        for step, row in ROWS:
            words = ("x = " + row).split(" ")
            for k in range(len(words)):
                # Without one of its sides a row writes a step of fewer sides.
                if k < 3 or step[0] not in ("in", "count", "turn", "lay"):
                    self.bad_step(" ".join(words[:k] + words[k + 1:]))

    def test_a_word_too_many(self):
        for step, row in ROWS:
            if step[0] not in ("in", "count", "turn", "lay"):
                for word in ("a", "0", "1", "=", "in", ""):
                    self.bad_step("x = " + row + " " + word)

    def test_eight_and_nine_sides(self):
        for row in ("in", "count 0", "turn a", "lay a"):
            for many in range(9):
                numbers = tuple(range(many))
                text = AHEAD_ROWS + " ".join(["x = " + row] + [str(number) for number in numbers]) + "\nout x"
                self.assertIn(numbers, read(text)[0][0][4])
            self.bad_step("x = " + row + " 1" * 9)
            self.bad_step("x = " + row + " 1" * 10)
            self.bad_step("x = " + row + " 1" * 8 + " a")

    def test_a_count_without_its_side(self):
        self.bad_step("x = count")

    def test_blanks_and_tabs(self):
        for row in ("x = num 5", "x = in 2 3", "x = in", "x = each neg a", "x = turn a", "x = count 0"):
            self.bad_step(" " + row)
            self.bad_step(row + " ")
            self.bad_step("\t" + row)
            self.bad_step(row + "\t")
            for k in range(len(row)):
                if row[k] == " ":
                    self.bad_step(row[:k] + "  " + row[k + 1:])
                    self.bad_step(row[:k] + "\t" + row[k + 1:])
                    self.bad_step(row[:k] + " \t" + row[k + 1:])
                    if not row[k - 1].isdigit():
                        self.bad_step(row[:k] + row[k + 1:])

    def test_rows_of_other_sorts(self):
        for row in ("", " ", "  ", "\t", "=", "= num 5", "x", "x =", "x = ", "x num 5", "x = = num 5", "num 5", "out",
                    "out a", "# x", "x = out a", "x = a", "x = num", "x == num 5", "x = Num 5", "x = num 5 # five",
                    "x=num 5", "x = IN 2", "x = in 2,3", "x = in (2, 3)", "x = in 2 -3", "x = sides 2", "~" * 3000,
                    "x = number 5", "x = step 5", "x = word 5", "x = small 5"):
            self.bad_step(row)

    def test_functions_words_are_not_looked_at(self):
        for word in ("neg", "add", "nosuch", "in", "out", "a", "x", "abcdefgh", "zzzzzzzz"):
            self.assertEqual(read("a = num 1\nx = each " + word + " a\nout x")[0][0][1], ("each", word, 0))
            self.assertEqual(read("a = num 1\nx = pair " + word + " a a\nout x")[0][0][1], ("pair", word, 0, 0))
            self.assertEqual(read("a = num 1\nx = fold " + word + " a 7\nout x")[0][0][1], ("fold", word, 0, 7))
            self.assertEqual(read("a = num 1\nx = run " + word + " a 7\nout x")[0][0][1], ("run", word, 0, 7))
        for form in ("x = each {} a", "x = pair {} a b", "x = fold {} a 0", "x = run {} a 0"):
            for word in WORDS_AT_FAULT:
                self.bad_step(form.format(word))

    def test_shapes_are_not_looked_at(self):
        text = ("a = in 999 999 999 0 0 0 1 1\nb = flip a 900\nc = cut a 9 9 9 0\nd = turn a 5 5\ne = fetch a b\n"
                "f = join a b 8\ng = lay a 7\nh = spread a 999 999\ni = count 999\nout i")
        self.assertEqual(written(read(text)[0]), text)


class Names(Reading):
    def test_names_that_have_another_meaning(self):
        self.assertEqual(read("in = in 2\nout in"), (((("in", (2,)),), (0,)), ("in",)))
        self.assertEqual(read("out = num 5\nout out"), (((("num", 5),), (0,)), ("out",)))
        for name in ("in", "out", "num", "each", "add", "neg", "run", "a", "zzzzzzzz", "abcdefgh"):
            self.assertEqual(read(name + " = num 5\nx = each neg " + name + "\nout " + name)[1], (name, "x"))

    def test_words_that_are_no_names(self):
        for word in WORDS_AT_FAULT:
            self.bad_step(word + " = num 5")
            self.bad_step("x = each neg " + word)
            self.bad(5, AHEAD_ROWS + "out " + word)

    def test_a_name_twice(self):
        self.bad(2, "a = num 1\na = num 1\nout a")
        self.bad(3, "a = num 1\nb = num 1\na = each neg b\nout a")
        self.bad(3, "a = num 1\nb = num 1\nb = each neg b\nout a")

    def test_a_name_ahead_of_its_row_or_in_its_own(self):
        self.bad(1, "a = each neg b\nb = num 1\nout a")
        self.bad(1, "a = each neg a\nout a")
        self.bad(2, "a = num 1\nb = pair add a b\nout a")
        self.bad(2, "a = num 1\nb = pair add c a\nc = num 1\nout a")
        self.bad(3, "a = num 1\nb = num 2\nc = pick a b c\nout a")
        for row in ("each neg x", "pair add x a", "pair add a x", "pick x a a", "pick a x a", "pick a a x", "turn x",
                    "flip x 0", "cut x 0 0 0 1", "spread x 0 1", "lay x", "join x a 0", "join a x 0", "fetch x a",
                    "fetch a x", "fold add x 0", "run add x 0"):
            self.bad_step("x = " + row)
            self.bad_step("y = " + row)

    def test_the_numbers_of_steps_that_are_used(self):
        text = "c = num 1\nb = num 2\na = pick c b b\nd = join a c 0\nout d b c d"
        steps = (("num", 1), ("num", 2), ("pick", 0, 1, 1), ("join", 2, 0, 0))
        self.assertEqual(read(text), ((steps, (3, 1, 0, 3)), ("c", "b", "a", "d")))


class Texts(Reading):
    def test_the_empty_text(self):
        self.bad(1, "")

    def test_texts_without_steps(self):
        for text in ("out", "out ", "out a", "out out", " ", "\t", "a = num 1", "out = num 1", "~" * 4000):
            self.bad(1, text)
        self.bad(1, "\n")
        self.bad(1, "\n" * 4000)

    def test_a_row_end_at_the_end(self):
        self.bad(2, "a = num 1\nout a\n")
        self.bad(2, "a = num 1\nout a\n\n")
        self.bad(2, "a = num 1\n")

    def test_no_row_of_outs(self):
        self.bad(2, "a = num 1\nb = num 2")
        self.bad(2, "a = num 1\nout = num 2")
        self.bad(2, "out = num 1\nout = num 2")
        self.bad(2, "out = num 1\nout out =")

    def test_rows_of_outs(self):
        for last in ("", " ", "out", "out ", " out a", "out a ", "out  a", "out\ta", "out a\t", "out a  a", "Out a",
                     "outs a", "a", "a out", "out b", "out a b", "out b a", "out 0", "out 1", "out = a", "out a,a",
                     "out a out", "outa"):
            self.bad(2, "a = num 1\n" + last)

    def test_one_to_eight_outs(self):
        for many in range(1, 9):
            self.assertEqual(read("a = num 1\nout" + " a" * many)[0][1], (0,) * many)
        for many in (0, 9, 10, 100):
            self.bad(2, "a = num 1\nout" + " a" * many)

    def test_an_empty_row(self):
        self.bad(1, "\na = num 1\nout a")
        self.bad(2, "a = num 1\n\nout a")
        self.bad(2, "a = num 1\n\nb = num 1\nout a")

    def test_outs_among_the_rows(self):
        self.bad(1, "out a\na = num 1\nout a")
        self.bad(2, "a = num 1\nout a\nout a")

    def test_other_row_ends(self):
        self.bad(1, "a = num 1\r\nout a")
        self.bad(1, "a = num 1\rout a")
        self.bad(1, "a = num 1\x0cout a")
        self.bad(1, "a = num 1\u2028out a")

    def test_forty_rows_of_steps(self):
        rows = [name_of(k) + " = num " + str(k) for k in range(43)]
        for many in (1, 39, 40):
            program, names = read("\n".join(rows[:many] + ["out a"]))
            self.assertEqual(program, (tuple([("num", k) for k in range(many)]), (0,)))
            self.assertEqual(names, tuple([name_of(k) for k in range(many)]))
        for many in (41, 42, 43):
            self.bad(41, "\n".join(rows[:many] + ["out a"]))
            self.bad(41, "\n".join(rows[:many] + [""]))
            self.bad(40, "\n".join(rows[:39] + ["x"] + rows[40:many] + ["out a"]))
        self.bad(41, "\n".join(rows[:40] + [""]))
        self.bad(41, "\n".join(rows[:40] + ["out ao"]))
        self.bad(41, "\n".join(rows[:40] + ["x", "out a"]))

    def test_the_first_of_several_is_told(self):
        self.bad(1, "a = num\nb = num\nout")
        self.bad(2, "a = num 1\nb = num\nout")
        self.bad(2, "a = num 1\na = num 1\nb = each neg c\nout z")
        self.bad(3, "a = num 1\nb = num 1\nc = each neg c\na = num 1\nout z")
        self.bad(3, "a = num 1\nb = num 1\nout z")


def random_step(chance, k):
    """A step of any shape whose arguments are earlier steps and whose numbers are within what a text may write."""
    def arg():
        return chance.randrange(k)

    def small():
        return chance.choice((0, 1, 2, 9, 10, 99, 100, 999, chance.randrange(1000)))

    def smalls():
        return tuple([small() for place in range(chance.randrange(9))])

    def word():
        return "".join([chance.choice("abcxyz") for place in range(chance.randrange(1, 9))])

    def number():
        return chance.choice((0, -1, 1, common.LEAST, common.GREATEST, chance.randrange(-10**6, 10**6)))

    firsts = [("in", smalls()), ("num", number()), ("count", smalls(), small())]
    if k == 0:
        return chance.choice(firsts)
    return chance.choice(firsts + [
        ("each", word(), arg()), ("pair", word(), arg(), arg()), ("pick", arg(), arg(), arg()),
        ("turn", arg(), smalls()), ("flip", arg(), small()), ("cut", arg(), small(), small(), small(), small()),
        ("spread", arg(), small(), small()), ("lay", arg(), smalls()), ("join", arg(), arg(), small()),
        ("fetch", arg(), arg()), ("fold", word(), arg(), small()), ("run", word(), arg(), small()),
    ])


class ThereAndBack(Reading):
    def test_what_is_written_is_read(self):
        chance = random.Random(46)
        for many in list(range(1, 41)) * 3:
            steps = tuple([random_step(chance, k) for k in range(many)])
            outs = tuple([chance.randrange(many) for place in range(chance.randrange(1, 9))])
            names = tuple([name_of(k) for k in chance.sample(range(20000), many)])
            self.assertEqual(read(written((steps, outs))), ((steps, outs), tuple([name_of(k) for k in range(many)])))
            self.assertEqual(read(written((steps, outs), names)), ((steps, outs), names))

    def test_what_is_read_is_written(self):
        chance = random.Random(47)
        for many in range(1, 41):
            steps = tuple([random_step(chance, k) for k in range(many)])
            outs = tuple([chance.randrange(many) for place in range(chance.randrange(1, 9))])
            names = tuple([name_of(k) for k in chance.sample(range(10**6), many)])
            text = written((steps, outs), names)
            program, told = read(text)
            self.assertEqual(written(program, told), text)

    def test_texts_with_one_sign_changed(self):
        """Whatever is read at all, written anew, is the text itself."""
        text = "in = in 2 30\nb = num -12\nab = pair add in b\nc = cut ab 1 0 10 3\nd = count 0\nout c in c"
        changed = 0
        for k in range(len(text) + 1):
            for sign in " =-0159abco\n\t~":
                for other in (text[:k] + sign + text[k:], text[:k] + sign + text[k + 1:], text[:k] + text[k + 1:]):
                    outcome = common.outcome(read, other)
                    if outcome is not BadText:
                        changed += 1
                        self.assertEqual(written(outcome[0], outcome[1]), other)
        self.assertGreater(changed, 300)


if __name__ == "__main__":
    unittest.main()
