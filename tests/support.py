"""What several test files use."""

import unittest


class WeftTest(unittest.TestCase):
    def assert_raises(self, error, attributes, call, *arguments):
        """Check that a call raises an error of just this class with these attributes."""
        with self.assertRaises(error) as caught:
            call(*arguments)
        self.assertIs(type(caught.exception), error)
        self.assertEqual(vars(caught.exception), attributes)


def text_of(*lines):
    return "\n".join(lines)
