"""The examples of README.md answer as it says."""

import doctest
import pathlib
import unittest

README = pathlib.Path(__file__).resolve().parent.parent / "README.md"


class Examples(unittest.TestCase):
    def test_examples(self):
        answer = doctest.testfile(str(README), module_relative=False)
        self.assertEqual(answer.failed, 0)
        self.assertGreater(answer.attempted, 0)


if __name__ == "__main__":
    unittest.main()
