"""How the tests ask if something is refused, and by what."""

import unittest

from pairlattice.errors import (
    BadBook, BadPairing, BadText, NotClosed, NotGood, NoTurning, PairError,
)

REFUSALS = (BadBook, BadPairing, BadText, NotClosed, NotGood, NoTurning)


class Refusing(unittest.TestCase):
    def refused(self, kind, ask, *handed):
        """It is refused with this kind, and with none of the other five."""
        with self.assertRaises(kind) as caught:
            ask(*handed)
        self.assertIsInstance(caught.exception, PairError)
        self.assertIsInstance(caught.exception, ValueError)
        self.assertNotIsInstance(caught.exception, tuple(set(REFUSALS) - {kind}))
