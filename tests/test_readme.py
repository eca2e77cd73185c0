"""Whether the examples of README.md are true."""

import doctest
import pathlib
import unittest

README = pathlib.Path(__file__).resolve().parent.parent / "README.md"


class Readme(unittest.TestCase):
    def test_examples(self):
        told = doctest.testfile(str(README), module_relative=False)
        self.assertEqual(told.failed, 0)
        self.assertGreater(told.attempted, 0)

    def test_every_module_is_named(self):
        text = README.read_text(encoding="utf-8")
        for path in (README.parent / "foldlog").glob("*.py"):
            if path.stem != "__init__":
                self.assertIn("foldlog." + path.stem, text)


if __name__ == "__main__":
    unittest.main()
