"""The examples of the README."""

import doctest
import pathlib
import unittest

README = pathlib.Path(__file__).resolve().parent.parent / "README.md"


class TestReadme(unittest.TestCase):
    def test_its_examples(self):
        text = README.read_text("ascii").replace("```", "")
        examples = doctest.DocTestParser().get_doctest(text, {}, "README.md", str(README), 0)
        told = doctest.DocTestRunner().run(examples)
        self.assertGreater(told.attempted, 10)
        self.assertEqual(told.failed, 0)


if __name__ == "__main__":
    unittest.main()
