import unittest

from helping import Alike
from reachbook.words import (
    is_among, is_name, is_whole, number_of, number_text, words_of,
)

NO_TEXTS = [None, True, False, 0, 7, b"a", ["a"], ("a",), {"a": 1}, {"a"}, Alike()]
NO_WHOLES = [None, True, False, "", "1", b"1", [1], (1,), {1: 1}, {1}, 1.0, Alike()]


class NamesTest(unittest.TestCase):

    def test_names(self):
        for name in ["a", "z", "bc", "abcdefghijkl", "nopqrstuvwxy", "zzzzzzzzzzzz"]:
            with self.subTest(name=name):
                self.assertIs(is_name(name), True)

    def test_lengths(self):
        for many in range(20):
            with self.subTest(many=many):
                self.assertIs(is_name("m" * many), 1 <= many <= 12)

    def test_all_letters(self):
        for letter in "abcdefghijklmnopqrstuvwxyz":
            self.assertIs(is_name(letter), True)

    def test_other_signs(self):
        # ` and { stand next to the letters in ASCII.
        for sign in list("A Z0-9_.`{\n\t") + ["", "\u00e9", "\u00df", "\u0430", "\uff41"]:
            for text in [sign, "a" + sign + "b" if sign else "", sign + "a", "a" + sign]:
                if text == "a":
                    continue
                with self.subTest(text=text):
                    self.assertIs(is_name(text), False)

    def test_no_texts(self):
        for thing in NO_TEXTS:
            with self.subTest(thing=thing):
                self.assertIs(is_name(thing), False)


class NumbersTest(unittest.TestCase):

    def test_whole(self):
        for number in [0, 1, -1, 61, 10 ** 60, -10 ** 60, 10 ** 5000]:
            self.assertIs(is_whole(number), True)

    def test_no_whole(self):
        for thing in NO_WHOLES:
            with self.subTest(thing=thing):
                self.assertIs(is_whole(thing), False)

    def test_among(self):
        for thing, is_it in [(2, False), (3, True), (4, True), (5, True), (6, False)]:
            with self.subTest(thing=thing):
                self.assertIs(is_among(thing, 3, 5), is_it)
        self.assertIs(is_among(-2, -2, -2), True)
        self.assertIs(is_among(10 ** 60, 0, 10 ** 60), True)
        self.assertIs(is_among(10 ** 60 + 1, 0, 10 ** 60), False)

    def test_no_whole_is_among(self):
        for thing in NO_WHOLES:
            with self.subTest(thing=thing):
                self.assertIs(is_among(thing, 0, 1), False)

    def test_number_text(self):
        for number, text in [(0, "0"), (7, "7"), (10, "10"), (10 ** 60, "1" + "0" * 60)]:
            self.assertEqual(number_text(number), text)

    def test_numbers(self):
        for number in [0, 1, 9, 10, 107, 1234567890, 10 ** 60, 10 ** 61 - 1]:
            with self.subTest(number=number):
                self.assertEqual(number_of(str(number)), number)
                self.assertEqual(number_of(number_text(number)), number)
                self.assertIs(is_whole(number_of(str(number))), True)

    def test_figures_count(self):
        self.assertEqual(number_of("9" * 61), 10 ** 61 - 1)
        self.assertIsNone(number_of("9" * 62))
        self.assertIsNone(number_of("1" * 5000))

    def test_no_numbers(self):
        for word in ["", "00", "01", "007", "+1", "-1", "-0", " 1", "1 ", "1\n", "\t1",
                     "1_0", "1.0", "1e3", "0x1", "a", "1a", "a1", "/", ":", "\u0661", "\u00b2",
                     "0" * 61]:
            with self.subTest(word=word):
                self.assertIsNone(number_of(word))

    def test_no_texts(self):
        for thing in NO_TEXTS:
            with self.subTest(thing=thing):
                self.assertIsNone(number_of(thing))


class WordsTest(unittest.TestCase):

    def test_words(self):
        for line, words in [
                ("a", ["a"]), ("point a", ["point", "a"]),
                ("tie 1 a b 0", ["tie", "1", "a", "b", "0"]),
                ("- + ~ !", ["-", "+", "~", "!"])]:
            with self.subTest(line=line):
                self.assertEqual(words_of(line), words)

    def test_other_white_space_stands_within_words(self):
        for line, words in [
                ("a\tb c", ["a\tb", "c"]), ("a\nb", ["a\nb"]), ("\t", ["\t"]),
                ("a \n", ["a", "\n"]), ("\ta b\n", ["\ta", "b\n"])]:
            with self.subTest(line=line):
                self.assertEqual(words_of(line), words)

    def test_blanks_that_do_not_part_two_words(self):
        for line in ["", " ", "  ", " a", "a ", "a  b", "a b  c", "a b ", " a b"]:
            with self.subTest(line=line):
                self.assertIsNone(words_of(line))

    def test_no_texts(self):
        for thing in NO_TEXTS:
            with self.subTest(thing=thing):
                self.assertIsNone(words_of(thing))

    def test_told_words_are_the_askers_own(self):
        line = "point a"
        words_of(line).append("b")
        self.assertEqual(words_of(line), ["point", "a"])


if __name__ == "__main__":
    unittest.main()
