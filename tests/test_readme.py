"""The examples of README.md."""

import doctest
import os
import unittest

README = os.path.join(os.path.dirname(os.path.dirname(os.path.abspath(__file__))), "README.md")


class Readme(unittest.TestCase):
    def test_examples(self):
        result = doctest.testfile(README, module_relative=False)
        self.assertGreater(result.attempted, 0)
        self.assertEqual(result.failed, 0)
