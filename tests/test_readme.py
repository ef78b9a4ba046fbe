"""The examples of README.md do what they show."""

import pathlib
import unittest

from tests.helpers import run_examples

README = pathlib.Path(__file__).resolve().parent.parent / 'README.md'


class ReadmeTest(unittest.TestCase):
    def test_its_examples(self):
        # A fence right below an answer would count as part of it.
        attempted, failed = run_examples(README.read_text().replace('```', ''), {})
        self.assertGreater(attempted, 5)
        self.assertEqual(failed, 0)


if __name__ == '__main__':
    unittest.main()
