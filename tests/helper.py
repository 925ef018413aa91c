"""What several tests use."""

import unittest

# A number that str() refuses to write out.
HUGE = 10 ** 5000


class SmaltiTest(unittest.TestCase):
    """A test that can ask for an error with its attributes."""

    def assert_error(self, expected, call, *arguments, **more):
        """The call raises an error of exactly the class, with exactly the attributes."""
        with self.assertRaises(type(expected)) as caught:
            call(*arguments, **more)
        self.assertIs(type(caught.exception), type(expected))
        self.assertEqual(vars(caught.exception), vars(expected))
