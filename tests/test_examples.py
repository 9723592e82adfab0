"""All the examples of the document, as they stand; and those of README.md."""

import doctest
import pathlib
import unittest

from examples import ALL

README = pathlib.Path(__file__).resolve().parent.parent / "README.md"


class Examples(unittest.TestCase):
    def check(self, name, text):
        told = []
        test = doctest.DocTestParser().get_doctest(text, {}, name, None, 0)
        result = doctest.DocTestRunner(verbose=False).run(test, out=told.append)
        self.assertEqual(result.failed, 0, "".join(told))
        self.assertGreater(result.attempted, 0)

    def test_examples(self):
        for name, text in ALL.items():
            with self.subTest(name):
                self.check(name, text)

    def test_readme(self):
        self.check("README.md", README.read_text().replace("```", ""))


if __name__ == "__main__":
    unittest.main()
