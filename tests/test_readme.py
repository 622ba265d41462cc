import doctest
import pathlib
import unittest

README = pathlib.Path(__file__).resolve().parent.parent / "README.md"


class ReadmeTest(unittest.TestCase):
    def test_the_examples_hold(self):
        told = doctest.testfile(str(README), module_relative=False)
        self.assertEqual(told.failed, 0)
        self.assertGreater(told.attempted, 5)


if __name__ == "__main__":
    unittest.main()
