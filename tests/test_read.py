"""[5]: reading bends from texts."""

import unittest

from handlebends.bends import Bend
from handlebends.errors import InvalidBend, InvalidText

import support

GOOD = "bend 2 marks 0 1/2 1 handles 0 1 -2/3 4"


class Good(unittest.TestCase):
    def test_read(self):
        bend = Bend.read(GOOD)
        self.assertIsInstance(bend, Bend)
        self.assertEqual(bend, Bend(2, [0, (1, 2), 1], [0, 1, (-2, 3), 4]))

    def test_plainest_and_longest(self):
        self.assertEqual(Bend.read("bend 0 marks -1 0 handles 0"), Bend(0, [-1, 0], [0]))
        self.assertEqual(Bend.read("bend 0 marks -999999999 999999999 handles 123456789/987654322"),
                         Bend(0, [-999999999, 999999999], [(123456789, 987654322)]))
        self.assertEqual(Bend.read("bend 1 marks 10 100 handles -10/3 3/10"), Bend(1, [10, 100], [(-10, 3), (3, 10)]))

    def test_there_and_back(self):
        for bend in support.many_bends():
            self.assertEqual(Bend.read(str(bend)), bend)


class Bad(unittest.TestCase):
    def check(self, text):
        with self.assertRaises(InvalidText, msg=repr(text)) as caught:
            Bend.read(text)
        self.assertEqual(caught.exception.at, 0)

    def test_no_strings(self):
        for thing in support.no_values() + [0, 7, (1, 2), [GOOD], (GOOD,), GOOD.split(" "), Bend.read(GOOD)]:
            if thing != GOOD:
                self.check(thing)

    def test_blanks_and_lines(self):
        for text in ("", " ", "\n", " " + GOOD, GOOD + " ", GOOD + "\n", "\n" + GOOD, GOOD.replace(" ", "  "),
                     GOOD.replace(" marks", "  marks"), GOOD.replace("marks ", "marks  "),
                     GOOD.replace("1/2 1", "1/2  1"), GOOD.replace(" ", "\n"), GOOD.replace("0 1", "0\n1"),
                     GOOD.replace(" ", ""), GOOD.replace("1/2", "1 /2"),
                     GOOD.replace("1/2", "1/ 2"), GOOD.replace("-2", "- 2"), GOOD.replace(" ", "\t")):
            self.check(text)

    def test_words(self):
        for text in ("bend", "marks", "bend 2", "bend 2 marks", "bend 2 marks 0 1", "bend 2 marks 0 1 handles",
                     "bend 2 marks handles", "bend 2 marks handles 1 2 3", "bend 2 handles 1 2 3",
                     "bend marks 0 1 handles 1 2 3", "2 marks 0 1 handles 1 2 3", "bend 2 0 1 handles 1 2 3",
                     "bend 2 marks 0 1 1 2 3", "bend 2 handles 1 2 3 marks 0 1", "marks 0 1 bend 2 handles 1 2 3",
                     "handles 1 2 3 marks 0 1 bend 2", "marks 0 1 handles 1 2 3 bend 2", "bend handles 2 marks 0 1",
                     "bend handles marks 0 1", "bend 2 2 marks 0 1 handles 1 2 3",
                     "bend bend 2 marks 0 1 handles 1 2 3", "bend 2 bend 2 marks 0 1 handles 1 2 3",
                     "bend 2 marks marks 0 1 handles 1 2 3", "bend 2 marks 0 1 marks 0 1 handles 1 2 3",
                     "bend 2 marks 0 1 handles handles 1 2 3", "bend 2 marks 0 1 handles 1 2 3 handles 1 2 3",
                     "bend 2 marks 0 1 handles 1 2 3 marks 0 1", "bend 2 marks 0 1 handles 1 2 3 bend",
                     "bend 2 marks 0 1 handles 1 2 3 handles", "Bend 2 marks 0 1 handles 1 2 3",
                     "bend 2 Marks 0 1 handles 1 2 3", "bend 2 marks 0 1 HANDLES 1 2 3",
                     "bends 2 marks 0 1 handles 1 2 3", "bend 2 mark 0 1 handle 1 2 3",
                     "bend 2 marks 0 1 handles 1 two 3", "bend 2 marks a b handles 1 2 3"):
            self.check(text)

    def test_degrees(self):
        for word in ("-1", "-0", "+1", "01", "00", "1/1", "2/1", "1/2", "1.0", "x", "1_0", "1e1", "1234567890", "-",
                     "0000000002", "\u0662", "\u00b2"):
            self.check(f"bend {word} marks 0 1 handles 1 2 3")

    def test_values(self):
        for word in ("-0", "+1", "+0", "--1", "-", "/", "1/", "/2", "-/2", "1/-2", "1/+2", "1//2", "1/2/3", "01", "00",
                     "-01", "007", "1/02", "01/2", "1/00", "1/0", "0/0", "0/1", "-0/1", "0/5", "-0/5", "1/1", "2/1",
                     "-3/1", "2/4", "6/3", "-2/4", "10/100", "1.5", "1e2", "1_000", "0x1", "1,", "1-", "-1-", "1-2",
                     "1234567890", "-1234567890", "1/1234567890", "1234567890/7", "0000000001", "(1,2)", "None", "True",
                     "\u0661", "\u00b2", "1\u00a0", "\u22121"):
            self.check(f"bend 1 marks 0 1 handles {word} 2")
            self.check(f"bend 1 marks 0 1 handles 2 {word}")
            self.check(f"bend 1 marks {word} 100 handles 1 2")
            self.check(f"bend 1 marks -100 {word} handles 1 2")

    def test_form_ahead_of_bend(self):
        self.check("bend 1 marks 1 0 handles x")
        self.check("bend 1 marks 1 0 handles 2/4")
        self.check("bend 0 marks 0 1 2 handles")


class NoBend(unittest.TestCase):
    def check(self, word, text):
        with self.assertRaises(InvalidBend, msg=text) as caught:
            Bend.read(text)
        self.assertEqual(caught.exception.word, word, text)

    def test_marks(self):
        for marks in ("0", "0 0", "1 0", "0 2 1", "1/2 1/3", "0 0 1", "0 1 1", "0 1/2 1/2 1"):
            self.check("marks", f"bend 1 marks {marks} handles 0 0 0 0")
        self.check("marks", "bend 0 marks 0 1 2 handles 1 2")

    def test_handles(self):
        for handles in ("0", "0 0 0 0", "1/2 1/2"):
            self.check("handles", f"bend 2 marks 0 1 handles {handles}")
        self.check("handles", "bend 999999999 marks 0 1 handles 5")


if __name__ == "__main__":
    unittest.main()
