import doctest
import pathlib
import unittest

README = pathlib.Path(__file__).resolve().parent.parent / "README.md"


class TestReadme(unittest.TestCase):
    def test_the_examples(self):
        # The signs around an example would be taken for a part of what it shows.
        text = README.read_text().replace("```", "")
        found = doctest.DocTestParser().get_doctest(text, {}, "README", str(README), 0)
        shown = []
        result = doctest.DocTestRunner(verbose=False).run(found, out=shown.append)
        self.assertEqual((result.failed, shown), (0, []))
        self.assertGreater(result.attempted, 10)
