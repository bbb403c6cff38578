"""Tests of README.md: its examples, and that it tells of every module."""

import doctest
import pathlib
import unittest

import ordershown

FOLDER = pathlib.Path(ordershown.__file__).parent
README = pathlib.Path(__file__).parent.parent / "README.md"


class ReadmeTest(unittest.TestCase):
    def test_the_examples(self):
        found = doctest.testfile(str(README), module_relative=False)
        self.assertEqual(found.failed, 0)
        self.assertGreater(found.attempted, 30)

    def test_every_module_is_told(self):
        text = README.read_text()
        for path in sorted(FOLDER.glob("[a-z]*.py")):
            with self.subTest(module=path.stem):
                self.assertIn(f"| `ordershown.{path.stem}` |", text)


if __name__ == "__main__":
    unittest.main()
