import doctest
import pathlib
import unittest

README = pathlib.Path(__file__).resolve().parent.parent / "README.md"


class Examples(unittest.TestCase):
    def test_examples_of_the_readme(self):
        found = doctest.testfile(str(README), module_relative=False)
        self.assertGreater(found.attempted, 5)
        self.assertEqual(found.failed, 0)


if __name__ == "__main__":
    unittest.main()
