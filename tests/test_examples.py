"""The examples of the document as they stand there."""

import doctest
import os
import unittest

HERE = os.path.dirname(os.path.abspath(__file__))


class Examples(unittest.TestCase):
    def holds(self, section, many):
        name = "examples_section_%d.txt" % section
        failed, attempted = doctest.testfile(os.path.join(HERE, name), module_relative=False)
        self.assertEqual((failed, attempted), (0, many))

    def test_readme(self):
        name = os.path.join(os.path.dirname(HERE), "README.md")
        failed, attempted = doctest.testfile(name, module_relative=False)
        self.assertEqual((failed, attempted), (0, 37))

    def test_section_4(self):
        self.holds(4, 10)

    def test_section_5(self):
        self.holds(5, 14)

    def test_section_6(self):
        self.holds(6, 11)

    def test_section_7(self):
        self.holds(7, 8)

    def test_section_8(self):
        self.holds(8, 15)

    def test_section_9(self):
        self.holds(9, 16)

    def test_section_10(self):
        self.holds(10, 14)

    def test_section_11(self):
        self.holds(11, 17)

    def test_section_12(self):
        self.holds(12, 11)

    def test_section_13(self):
        self.holds(13, 9)

    def test_section_14(self):
        self.holds(14, 17)

    def test_section_15(self):
        self.holds(15, 14)

    def test_section_16(self):
        self.holds(16, 7)


if __name__ == "__main__":
    unittest.main()
