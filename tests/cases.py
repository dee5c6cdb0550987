"""The test case that the tests of the later points share."""

import unittest

from tests.samples import same


class Case(unittest.TestCase):
    def refuse(self, error, attribute, value, work, *args, **more):
        """The work raises just this error, and the error holds the very value."""
        with self.assertRaises(error) as caught:
            work(*args, **more)
        self.assertIs(caught.exception.__class__, error)
        self.assertTrue(same(getattr(caught.exception, attribute), value), caught.exception.__dict__)
