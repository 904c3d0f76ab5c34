import doctest
import pathlib
import unittest

README = pathlib.Path(__file__).resolve().parent.parent / "README.md"


class Readme(unittest.TestCase):
    def test_examples(self):
        text = README.read_text("ascii").replace("```", "")
        examples = doctest.DocTestParser().get_doctest(text, {}, "README.md", str(README), 0)
        told = doctest.DocTestRunner().run(examples)
        self.assertGreater(told.attempted, 10)
        self.assertEqual(told.failed, 0)
