"""What tests of refusals share."""

import unittest

from towbarges.errors import TowError


class Refused(unittest.TestCase):
    def refused(self, kind, call, *arguments):
        """Assert that a call is refused with an error of just that kind, and give it."""
        with self.assertRaises(TowError) as told:
            call(*arguments)
        self.assertIs(type(told.exception), kind)
        self.assertIsInstance(told.exception, ValueError)
        return told.exception
