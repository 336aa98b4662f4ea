"""Points 0.1, 1.1 to 1.5 and the interface's part sideloom/figures.py."""

import unittest

from sideloom import figures
from sideloom.errors import LoomError, NoWord
from sideloom.figures import HIGH, LOW, neutral, once, twice, wrapped

ONE = ("neg", "abs", "sign", "not")
TWO = ("add", "sub", "mul", "quo", "rest", "max", "min", "less", "like", "and", "or", "xor")
FOLDING = ("add", "mul", "max", "min", "and", "or", "xor")
NO_WORDS = (
    "", " ", "neg ", " add", "Neg", "ADD", "ne", "adds", "addsub", "add sub", "neg\n", "neg\0",
    "in", "num", "fold", "once", "wrapped", "__init__", "and or", "n\u00e9g", "~" * 4000,
)

# Edges of the language and of halves of it, and some numbers of no special kind.
EDGES = (
    LOW, LOW + 1, LOW + 2, -(2**62) - 1, -(2**62), -(2**32) - 1, -(2**32), -(2**31), -1000, -7, -3, -2, -1,
    0, 1, 2, 3, 7, 10, 1000, 2**31, 2**32, 2**32 + 1, 2**62, 2**62 + 1, HIGH - 2, HIGH - 1, HIGH,
    0x5555555555555555, -0x5555555555555556, 123456789012345678, -987654321098765432,
)


def bit(x, k):
    return (x >> k) & 1


class Wrapping(unittest.TestCase):
    def test_bounds(self):
        self.assertEqual(figures.LOW, -(2**63))
        self.assertEqual(figures.HIGH, 2**63 - 1)

    def test_numbers_of_the_language_stay(self):
        for x in EDGES:
            self.assertEqual(wrapped(x), x)

    def test_one_beyond_either_bound(self):
        self.assertEqual(wrapped(HIGH + 1), LOW)
        self.assertEqual(wrapped(LOW - 1), HIGH)

    def test_far_beyond(self):
        self.assertEqual(wrapped(2**64), 0)
        self.assertEqual(wrapped(-(2**64)), 0)
        self.assertEqual(wrapped(2**64 - 1), -1)
        self.assertEqual(wrapped(1 - 2**64), 1)
        self.assertEqual(wrapped(3 * 2**63), LOW)
        self.assertEqual(wrapped(2**200 + 5), 5)
        self.assertEqual(wrapped(-(2**200) - 5), -5)

    def test_within_the_bounds_and_off_by_a_multiple(self):
        great = (2**64, 2**65 + 3, 10**30, 10**5000, 7**3000)
        for n in EDGES + great + tuple([-n for n in great]):
            for near in (n - 1, n, n + 1):
                back = wrapped(near)
                self.assertTrue(LOW <= back <= HIGH)
                self.assertEqual((near - back) % 2**64, 0)


class OfOneNumber(unittest.TestCase):
    def test_neg(self):
        told = {0: 0, 1: -1, -1: 1, 5: -5, HIGH: LOW + 1, LOW + 1: HIGH, LOW: LOW}
        for x, answer in told.items():
            self.assertEqual(once("neg", x), answer)

    def test_abs(self):
        told = {0: 0, 1: 1, -1: 1, -5: 5, HIGH: HIGH, LOW + 1: HIGH, LOW: LOW}
        for x, answer in told.items():
            self.assertEqual(once("abs", x), answer)

    def test_sign(self):
        told = {0: 0, 1: 1, -1: -1, 5: 1, -5: -1, HIGH: 1, LOW: -1}
        for x, answer in told.items():
            self.assertEqual(once("sign", x), answer)

    def test_not(self):
        told = {0: 1, 1: 0, -1: 0, 2: 0, HIGH: 0, LOW: 0}
        for x, answer in told.items():
            self.assertEqual(once("not", x), answer)

    def test_what_comes_out_is_a_number_of_the_language(self):
        for word in ONE:
            for x in EDGES:
                answer = once(word, x)
                self.assertIs(type(answer), int)
                self.assertTrue(LOW <= answer <= HIGH)


class OfTwoNumbers(unittest.TestCase):
    def told(self, word, rows):
        for x, y, answer in rows:
            with self.subTest(word=word, x=x, y=y):
                self.assertEqual(twice(word, x, y), answer)

    def test_add(self):
        self.told("add", ((0, 0, 0), (2, 3, 5), (2, -3, -1), (HIGH, 1, LOW), (LOW, -1, HIGH),
                          (HIGH, HIGH, -2), (LOW, LOW, 0), (LOW, HIGH, -1)))

    def test_sub(self):
        self.told("sub", ((0, 0, 0), (2, 3, -1), (3, 2, 1), (LOW, 1, HIGH), (HIGH, -1, LOW),
                          (0, LOW, LOW), (-1, LOW, HIGH), (LOW, LOW, 0), (HIGH, LOW, -1)))

    def test_mul(self):
        self.told("mul", ((0, 5, 0), (2, 3, 6), (-2, 3, -6), (-2, -3, 6), (LOW, -1, LOW), (LOW, 2, 0),
                          (HIGH, HIGH, 1), (HIGH, 2, -2), (LOW, LOW, 0), (2**32, 2**31, LOW)))

    def test_quo(self):
        self.told("quo", ((7, 2, 3), (-7, 2, -4), (7, -2, -4), (-7, -2, 3), (6, 3, 2), (-6, 3, -2), (6, -3, -2),
                          (0, 5, 0), (0, -5, 0), (1, HIGH, 0), (-1, HIGH, -1), (1, LOW, -1), (-1, LOW, 0),
                          (LOW, -1, LOW), (LOW, 1, LOW), (HIGH, -1, -HIGH), (LOW, LOW, 1), (LOW, HIGH, -2),
                          (HIGH, LOW, -1), (HIGH, 2, 2**62 - 1), (LOW + 1, 2, -(2**62))))

    def test_quo_by_nought_is_nought(self):
        self.told("quo", [(x, 0, 0) for x in EDGES])

    def test_rest(self):
        self.told("rest", ((7, 2, 1), (-7, 2, 1), (7, -2, -1), (-7, -2, -1), (6, 3, 0), (-6, 3, 0), (6, -3, 0),
                           (0, 5, 0), (0, -5, 0), (1, HIGH, 1), (-1, HIGH, HIGH - 1), (1, LOW, LOW + 1),
                           (-1, LOW, -1), (LOW, -1, 0), (LOW, HIGH, HIGH - 1), (HIGH, LOW, -1), (LOW, 3, 1)))

    def test_rest_by_nought_is_the_first_number(self):
        self.told("rest", [(x, 0, x) for x in EDGES])

    def test_quo_is_rounded_down_and_rest_is_what_it_leaves(self):
        for x in EDGES:
            for y in EDGES:
                if y != 0:
                    rest = twice("rest", x, y)
                    self.assertTrue(0 <= rest < y or y < rest <= 0)
                    self.assertEqual((x - rest) % y, 0)
                    self.assertEqual(twice("quo", x, y), wrapped((x - rest) // y))

    def test_max(self):
        self.told("max", ((1, 2, 2), (2, 1, 2), (-1, -2, -1), (-2, -1, -1), (3, 3, 3), (-5, 4, 4),
                          (LOW, HIGH, HIGH), (HIGH, LOW, HIGH), (LOW, LOW + 1, LOW + 1)))

    def test_min(self):
        self.told("min", ((1, 2, 1), (2, 1, 1), (-1, -2, -2), (-2, -1, -2), (3, 3, 3), (-5, 4, -5),
                          (LOW, HIGH, LOW), (HIGH, LOW, LOW), (HIGH, HIGH - 1, HIGH - 1)))

    def test_less(self):
        self.told("less", ((1, 2, 1), (2, 1, 0), (2, 2, 0), (-2, -1, 1), (-1, -2, 0), (-1, 0, 1),
                           (LOW, HIGH, 1), (HIGH, LOW, 0), (HIGH, HIGH, 0)))

    def test_like(self):
        self.told("like", ((1, 2, 0), (2, 1, 0), (2, 2, 1), (0, 0, 1), (-1, 1, 0), (LOW, HIGH, 0),
                           (LOW, LOW, 1), (HIGH, HIGH, 1)))

    def test_and(self):
        self.told("and", ((12, 10, 8), (-1, 5, 5), (-2, 7, 6), (-4, -6, -8), (0, LOW, 0), (LOW, HIGH, 0), (LOW, -1, LOW)))

    def test_or(self):
        self.told("or", ((12, 10, 14), (-1, 5, -1), (-8, 3, -5), (-4, -6, -2), (0, LOW, LOW), (LOW, HIGH, -1)))

    def test_xor(self):
        self.told("xor", ((12, 10, 6), (-1, 5, -6), (-1, -1, 0), (-4, -6, 6), (0, LOW, LOW), (LOW, HIGH, -1)))

    def test_bit_by_bit(self):
        for x in EDGES:
            for y in EDGES:
                # Bit 100 lies where numbers below nought have nothing but ones.
                for k in tuple(range(66)) + (100,):
                    both = bit(x, k) + bit(y, k)
                    self.assertEqual(bit(twice("and", x, y), k), 1 if both == 2 else 0)
                    self.assertEqual(bit(twice("or", x, y), k), 1 if both >= 1 else 0)
                    self.assertEqual(bit(twice("xor", x, y), k), 1 if both == 1 else 0)

    def test_what_comes_out_is_a_number_of_the_language(self):
        for word in TWO:
            for x in EDGES:
                for y in EDGES:
                    answer = twice(word, x, y)
                    self.assertIs(type(answer), int)
                    self.assertTrue(LOW <= answer <= HIGH)


class Neutral(unittest.TestCase):
    def test_neutral_numbers(self):
        told = {"add": 0, "mul": 1, "max": LOW, "min": HIGH, "and": -1, "or": 0, "xor": 0}
        self.assertEqual({word: neutral(word) for word in FOLDING}, told)

    def test_put_on_either_side_it_leaves_a_number(self):
        for word in FOLDING:
            for x in EDGES:
                self.assertEqual(twice(word, neutral(word), x), x)
                self.assertEqual(twice(word, x, neutral(word)), x)


class Refusing(unittest.TestCase):
    def refused(self, function, *args):
        with self.subTest(function=function.__name__, args=args):
            with self.assertRaises(LoomError) as taken:
                function(*args)
            self.assertIs(type(taken.exception), NoWord)

    def test_words_that_are_none(self):
        for word in NO_WORDS:
            self.refused(once, word, 0)
            self.refused(twice, word, 0, 0)
            self.refused(neutral, word)

    def test_words_of_two_numbers_asked_of_one(self):
        for word in TWO:
            self.refused(once, word, 5)

    def test_words_of_one_number_asked_of_two(self):
        for word in ONE:
            self.refused(twice, word, 5, 6)

    def test_words_that_do_not_fold(self):
        for word in ONE + TWO:
            if word not in FOLDING:
                self.refused(neutral, word)

    def test_edges_do_not_hide_a_word_that_is_none(self):
        for x in (LOW, 0, HIGH):
            self.refused(once, "none", x)
            self.refused(twice, "none", x, 0)


if __name__ == "__main__":
    unittest.main()
