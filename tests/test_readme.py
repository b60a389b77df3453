"""What README.md shows is what the program answers."""

import doctest
import pathlib
import unittest

README = pathlib.Path(__file__).resolve().parent.parent / "README.md"


class ReadmeTest(unittest.TestCase):
    def test_examples(self):
        # A fence of code would be read as a part of the answer above it.
        text = README.read_text("utf-8").replace("```", "")
        examples = doctest.DocTestParser().get_doctest(text, {}, "README.md", "README.md", 0)
        self.assertGreater(len(examples.examples), 10)
        runner = doctest.DocTestRunner(verbose=False)
        runner.run(examples)
        self.assertEqual(runner.failures, 0)


if __name__ == "__main__":
    unittest.main()
