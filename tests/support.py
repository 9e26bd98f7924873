"""What several test files use."""

import unittest

from weft.errors import WeftError

KEEP = ("keep",)
DROP = ("drop",)
SAME = ((), KEEP, ())


class WeftTest(unittest.TestCase):
    def assert_raises(self, error, attributes, call, *arguments, **more):
        """Check that a call raises an error of just this class with these attributes."""
        with self.assertRaises(error) as caught:
            call(*arguments, **more)
        self.assertIs(type(caught.exception), error)
        self.assertEqual(vars(caught.exception), attributes)


def text_of(*lines):
    return "\n".join(lines)


def to(text):
    return ("text", text)


def behind(*texts):
    return ((), KEEP, texts)


def ahead(*texts):
    return (texts, KEEP, ())


def outcome(call, *arguments, **more):
    """Return what a call returns, or the class and the attributes of the error it raises."""
    try:
        return call(*arguments, **more)
    except WeftError as error:
        return (type(error), vars(error))
