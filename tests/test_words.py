"""Numbers and words: points 2, 4 and 5."""

import unittest

from retryhall.words import WIDE, is_name, is_number, is_slot, is_whole, number_of, reckon

SIGNS = [chr(code) for code in range(ord(" "), ord("~") + 1)]
WORDS_OF_DEEDS = (
    "let", "plus", "minus", "times", "less", "same", "take", "put", "if", "else", "either", "or", "try", "on",
    "throw", "wait",
)


class WideTest(unittest.TestCase):
    def test_wide_is_a_whole_number(self):
        self.assertIs(type(WIDE), int)
        self.assertEqual(WIDE, 2 ** 64)


class ReckonTest(unittest.TestCase):
    def check(self, word, rows):
        for one, other, answer in rows:
            told = reckon(word, one, other)
            self.assertEqual(told, answer, (word, one, other))
            self.assertIs(type(told), int, (word, one, other))

    def test_plus(self):
        self.check("plus", [
            (0, 0, 0), (2, 3, 5), (3, 2, 5), (7, 7, 14), (0, WIDE - 1, WIDE - 1), (WIDE - 2, 1, WIDE - 1),
            (WIDE - 1, 1, 0), (1, WIDE - 1, 0), (WIDE - 1, 2, 1), (WIDE - 1, WIDE - 1, WIDE - 2),
            (2 ** 63, 2 ** 63, 0), (2 ** 63, 2 ** 63 - 1, WIDE - 1),
        ])

    def test_minus(self):
        self.check("minus", [
            (0, 0, 0), (5, 3, 2), (7, 7, 0), (3, 5, WIDE - 2), (0, 1, WIDE - 1), (0, WIDE - 1, 1),
            (1, WIDE - 1, 2), (WIDE - 1, 0, WIDE - 1), (WIDE - 1, 1, WIDE - 2), (WIDE - 2, WIDE - 1, WIDE - 1),
            (WIDE - 1, WIDE - 1, 0),
        ])

    def test_times(self):
        self.check("times", [
            (0, 0, 0), (0, 9, 0), (6, 7, 42), (7, 6, 42), (3, 3, 9), (WIDE - 1, 0, 0), (WIDE - 1, 1, WIDE - 1),
            (1, WIDE - 1, WIDE - 1), (WIDE - 1, 2, WIDE - 2), (WIDE - 1, WIDE - 1, 1), (2 ** 32, 2 ** 32, 0),
            (2 ** 32, 2 ** 32 - 1, WIDE - 2 ** 32), (2 ** 63, 3, 2 ** 63),
            (WIDE - 1, WIDE - 2, 2),
        ])

    def test_less(self):
        self.check("less", [
            (0, 0, 0), (2, 3, 1), (3, 2, 0), (7, 7, 0), (0, WIDE - 1, 1), (WIDE - 1, 0, 0),
            (WIDE - 2, WIDE - 1, 1), (WIDE - 1, WIDE - 2, 0), (WIDE - 1, WIDE - 1, 0),
        ])

    def test_same(self):
        self.check("same", [
            (0, 0, 1), (2, 3, 0), (3, 2, 0), (7, 7, 1), (0, WIDE - 1, 0), (WIDE - 1, 0, 0),
            (WIDE - 2, WIDE - 1, 0), (WIDE - 1, WIDE - 2, 0), (WIDE - 1, WIDE - 1, 1),
            (2 ** 64 - 1, int("18446744073709551615"), 1),
        ])

    def test_every_result_is_a_number(self):
        near = [0, 1, 2, 2 ** 32, 2 ** 63, WIDE - 2, WIDE - 1]
        for word in ("plus", "minus", "times", "less", "same"):
            for one in near:
                for other in near:
                    self.assertTrue(0 <= reckon(word, one, other) < WIDE, (word, one, other))


class WholeNumbersTest(unittest.TestCase):
    def test_whole_numbers_and_numbers(self):
        for value in (0, 1, 17, WIDE - 1):
            self.assertEqual((is_whole(value), is_number(value)), (True, True), value)
        for value in (-1, -WIDE, WIDE, 10 ** 300):
            self.assertEqual((is_whole(value), is_number(value)), (True, False), value)

    def test_other_things(self):
        for value in (True, False, None, "", "1", 1.0, float("nan"), (), (1,), [], [1], {}, object(), int, 1j):
            self.assertEqual((is_whole(value), is_number(value)), (False, False), value)


class NumberOfTest(unittest.TestCase):
    def check_number(self, text, number):
        told = number_of(text)
        self.assertEqual(told, number, text)
        self.assertIs(type(told), int, text)

    def check_none(self, text):
        self.assertIsNone(number_of(text), text)

    def test_one_figure(self):
        for figure in range(10):
            self.check_number(str(figure), figure)

    def test_more_figures(self):
        self.check_number("10", 10)
        self.check_number("907", 907)
        self.check_number("1234567890", 1234567890)
        self.check_number("9" * 19, 10 ** 19 - 1)

    def test_twenty_figures(self):
        self.check_number("1" + "0" * 19, 10 ** 19)
        self.check_number("12345678901234567890", 12345678901234567890)

    def test_round_wide(self):
        self.check_number("18446744073709551614", WIDE - 2)
        self.check_number("18446744073709551615", WIDE - 1)
        self.check_none("18446744073709551616")
        self.check_none("18446744073709551617")

    def test_nines(self):
        self.check_none("9" * 20)
        self.check_none("9" * 21)

    def test_more_than_twenty_figures(self):
        self.check_none("1" + "0" * 20)
        self.check_none("1" * 5000)
        self.check_none("1" * 20000)

    def test_noughts_ahead(self):
        for text in ("00", "000", "01", "007", "0" * 20, "0" * 21, "0" * 19 + "1", "0" * 20 + "1"):
            self.check_none(text)

    def test_without_signs(self):
        self.check_none("")

    def test_single_signs_that_are_no_figures(self):
        for sign in SIGNS:
            if sign not in "0123456789":
                self.check_none(sign)

    def test_a_sign_ahead_behind_or_amid(self):
        for sign in SIGNS + ["\n", "\t"]:
            if sign not in "0123456789":
                self.check_none(sign + "12")
                self.check_none("12" + sign)
                self.check_none("1" + sign + "2")
                self.check_none(sign + "0")
                self.check_none("0" + sign)

    def test_pythons_other_ways_to_write(self):
        for text in ("1_000", "0x10", "1e3", "1.0", "-0", "+1", "0b1", " 1 "):
            self.check_none(text)


class IsSlotTest(unittest.TestCase):
    def test_each_single_sign(self):
        for sign in SIGNS:
            self.assertIs(is_slot(sign), sign in list("abcdefgh"), sign)

    def test_the_letters_named(self):
        for letter in "abcdefgh":
            self.assertIs(is_slot(letter), True, letter)
        self.assertIs(is_slot("i"), False)

    def test_capitals(self):
        for letter in "ABCDEFGHI":
            self.assertIs(is_slot(letter), False, letter)

    def test_no_sign_and_more_signs(self):
        for text in ("", "ab", "aa", "gh", "abc", "abcdefgh", "a ", " a", "  ", "a\n", "ha"):
            self.assertIs(is_slot(text), False, text)


class IsNameTest(unittest.TestCase):
    def test_one_letter(self):
        for sign in SIGNS:
            self.assertIs(is_name(sign), sign in list("abcdefghijklmnopqrstuvwxyz"), sign)

    def test_up_to_eight_letters(self):
        for text in ("ab", "zz", "full", "empties", "abcdefgh", "stuvwxyz", "zzzzzzzz"):
            self.assertIs(is_name(text), True, text)

    def test_none_and_nine(self):
        self.assertIs(is_name(""), False)
        self.assertIs(is_name("abcdefghi"), False)
        self.assertIs(is_name("z" * 9), False)
        self.assertIs(is_name("z" * 20000), False)

    def test_words_of_deeds(self):
        for word in WORDS_OF_DEEDS:
            self.assertIs(is_name(word), True, word)

    def test_words_of_deeds_that_are_no_letters(self):
        for word in ("(", ")", ";"):
            self.assertIs(is_name(word), False, word)

    def test_a_wrong_sign_at_any_place(self):
        for sign in SIGNS + ["\n"]:
            if sign not in "abcdefghijklmnopqrstuvwxyz":
                for place in range(4):
                    text = "abc"[:place] + sign + "abc"[place:]
                    self.assertIs(is_name(text), False, text)
                for place in range(8):
                    text = "abcdefg"[:place] + sign + "abcdefg"[place:]
                    self.assertIs(is_name(text), False, text)


if __name__ == "__main__":
    unittest.main()
