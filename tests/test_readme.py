"""The examples of README.md."""

import doctest
import pathlib
import unittest

README = pathlib.Path(__file__).parent.parent / "README.md"


class Examples(unittest.TestCase):
    def test_examples_hold(self):
        failed, tried = doctest.testfile(str(README), module_relative=False)
        self.assertGreater(tried, 0)
        self.assertEqual(failed, 0)
