"""The numbers of the language, and the functions that are done to them."""

from sideloom.errors import NoWord

LOW = -9223372036854775808
HIGH = 9223372036854775807


def wrapped(n):
    """The number of the language that differs from n by a multiple of 2**64."""
    return (n - LOW) % 2 ** 64 + LOW


def sign_of(x):
    if x < 0:
        return -1
    return 1 if x > 0 else 0


def quotient(x, y):
    if y == 0:
        return 0
    # LOW by -1 is the one quotient that lies beyond HIGH.
    return wrapped(x // y)


def remainder(x, y):
    return x if y == 0 else x % y


def once(word, x):
    """A function of one number, done to x."""
    if word == "neg":
        return wrapped(-x)
    if word == "abs":
        return wrapped(abs(x))
    if word == "sign":
        return sign_of(x)
    if word == "not":
        return 1 if x == 0 else 0
    raise NoWord(f"no function of one number: {word!r}")


def twice(word, x, y):
    """A function of two numbers, done to x and y."""
    if word == "add":
        return wrapped(x + y)
    if word == "sub":
        return wrapped(x - y)
    if word == "mul":
        return wrapped(x * y)
    if word == "quo":
        return quotient(x, y)
    if word == "rest":
        return remainder(x, y)
    if word == "max":
        return max(x, y)
    if word == "min":
        return min(x, y)
    if word == "less":
        return 1 if x < y else 0
    if word == "like":
        return 1 if x == y else 0
    if word == "and":
        return x & y
    if word == "or":
        return x | y
    if word == "xor":
        return x ^ y
    raise NoWord(f"no function of two numbers: {word!r}")


def neutral(word):
    """The number that a fold by this function begins with."""
    if word in ("add", "or", "xor"):
        return 0
    if word == "mul":
        return 1
    if word == "max":
        return LOW
    if word == "min":
        return HIGH
    if word == "and":
        return -1
    raise NoWord(f"no function that folds: {word!r}")
