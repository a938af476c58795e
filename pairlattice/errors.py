"""What is refused."""


class PairError(ValueError):
    """Any refusal."""


class BadBook(PairError):
    """What was handed in as a book is none."""


class BadPairing(PairError):
    """What was handed in as a pairing of a book is none."""


class NotGood(PairError):
    """A pairing that has breakers, where a good one is asked for."""


class NoTurning(PairError):
    """What was handed in as a turning at a pairing is none there."""


class NotClosed(PairError):
    """A list of numbers of turnings that is no closed one."""


class BadText(PairError):
    """A text that is not written as a book is."""
