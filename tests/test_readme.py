import doctest
import pathlib
import unittest

README = pathlib.Path(__file__).parent.parent / "README.md"


class ReadmeTest(unittest.TestCase):
    def test_examples(self):
        # A fence right behind an example would count as its result.
        text = "\n".join("" if line.startswith("```") else line for line in README.read_text().split("\n"))
        examples = doctest.DocTestParser().get_doctest(text, {}, "README.md", None, 0)
        result = doctest.DocTestRunner().run(examples)
        self.assertGreater(result.attempted, 15)
        self.assertEqual(result.failed, 0)
