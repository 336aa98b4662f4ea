"""The refusals of the program, one class for each."""


class LoomError(ValueError):
    """Any refusal."""


class NoWord(LoomError):
    """A word that names no function here."""


class NoPlace(LoomError):
    """Coordinates or a place at which no cell stands."""


class TooLarge(LoomError):
    """Sides that are not allowed."""


class NoSide(LoomError):
    """A side or an order that the sides don't have."""


class Unlike(LoomError):
    """Things that don't fit one another."""


class Beyond(LoomError):
    """What lies outside of that from which it is taken."""


class NoRound(LoomError):
    """A round that isn't there, or was done already."""


class NotReady(LoomError):
    """A reading of a place that isn't written yet."""


class NotDone(LoomError):
    """Answers asked for while rounds are left."""


class Stuck(LoomError):
    """A reading or a writing that can never be done."""


class BadText(LoomError):
    """A text that writes no program; row is the first row at fault, counted from 1."""

    def __init__(self, text, row):
        LoomError.__init__(self, text)
        self.row = row


class BadStep(LoomError):
    """A program that is not good; at is the number of the step at fault, why a word."""

    def __init__(self, text, at, why):
        LoomError.__init__(self, text)
        self.at = at
        self.why = why
