"""What several tests use."""

import unittest

# A number that str() refuses to write out.
HUGE = 10 ** 5000

# Cells outside of every picture that is at most three cells wide and two cells high.
FAR = [(-1, 0), (0, -1), (3, 0), (0, 2), (-3, -2), (HUGE, 0), (0, -HUGE), (2 ** 64, 1)]


class SmaltiTest(unittest.TestCase):
    """A test that can ask for an error with its attributes."""

    def assert_error(self, expected, call, *arguments, **more):
        """The call raises an error of exactly the class, with exactly the attributes."""
        with self.assertRaises(type(expected)) as caught:
            call(*arguments, **more)
        self.assertIs(type(caught.exception), type(expected))
        self.assertEqual(vars(caught.exception), vars(expected))
