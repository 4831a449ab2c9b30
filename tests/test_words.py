import unittest

from reusewise.words import is_name, is_number
from tests.helper import LANGUAGE_WORDS

LETTERS = "abcdefghijklmnopqrstuvwxyz"
FIGURES = "0123456789"
SIGNS = [chr(code) for code in range(32, 127)] + ["\n"]
# Letters and figures for Python's own tests, but none of the language's.
SIGNS_OF_OTHER_SCRIPTS = ["\u00e9", "\u00df", "\u00aa", "\u0430", "\uff41", "\u00b2", "\u0663", "\uff11", "\u2212"]


def at_begin_middle_end(sign, around):
    return [sign + around, around + sign, around + sign + around, sign]


class Names(unittest.TestCase):
    def answers(self, asked, words, answer):
        for word in words:
            with self.subTest(word=word):
                self.assertIs(asked(word), answer)
                self.assertIs(asked(word), answer)

    def test_one_letter(self):
        self.answers(is_name, LETTERS, True)

    def test_up_to_twelve_letters(self):
        self.answers(is_name, [LETTERS[:n] for n in range(1, 13)], True)
        self.answers(is_name, ["z" * 12, "reusewiseabc", LETTERS[-12:]], True)

    def test_thirteen_letters_and_more(self):
        self.answers(is_name, [LETTERS[:n] for n in range(13, 27)], False)
        self.answers(is_name, ["z" * 13, "a" * 20000], False)

    def test_the_empty_word(self):
        self.answers(is_name, [""], False)

    def test_words_of_the_language(self):
        self.assertEqual(len(LANGUAGE_WORDS), 20)
        self.answers(is_name, LANGUAGE_WORDS, False)

    def test_words_of_the_language_with_a_letter_more(self):
        self.answers(is_name, [word + "s" for word in LANGUAGE_WORDS], True)
        self.answers(is_name, ["a" + word for word in LANGUAGE_WORDS], True)

    def test_words_of_the_language_with_the_last_letter_gone(self):
        self.answers(is_name, [word[:-1] for word in LANGUAGE_WORDS], True)

    def test_words_of_held_code_and_faults_are_names(self):
        self.answers(is_name, ["op", "hold", "drop", "loose", "take", "look", "told", "late", "box"], True)

    def test_a_sign_that_is_no_small_letter(self):
        for sign in SIGNS + SIGNS_OF_OTHER_SCRIPTS:
            if sign not in LETTERS:
                self.answers(is_name, at_begin_middle_end(sign, "abc"), False)

    def test_great_letters(self):
        self.answers(is_name, ["ABC", "Abc", "abC", "Def", "DEF"], False)

    def test_what_would_be_a_name_but_for_one_sign_among_twelve(self):
        for place in range(12):
            word = LETTERS[:place] + "_" + LETTERS[place:11]
            self.answers(is_name, [word, word.replace("_", "1"), word.replace("_", " ")], False)

    def test_nought(self):
        self.answers(is_number, ["0"], True)
        self.answers(is_number, ["-0", "00", "-00"], False)

    def test_a_nought_ahead_of_others(self):
        self.answers(is_number, ["01", "-01", "007", "-007", "0" * 30, "0" + "1" * 29], False)

    def test_a_nought_at_another_place(self):
        self.answers(is_number, ["10", "-10", "101", "-100", "1" + "0" * 29, "-1" + "0" * 29], True)

    def test_one_figure(self):
        self.answers(is_number, FIGURES, True)
        self.answers(is_number, ["-" + figure for figure in FIGURES if figure != "0"], True)

    def test_up_to_thirty_figures(self):
        self.answers(is_number, ["9" * n for n in range(1, 31)], True)
        self.answers(is_number, ["-" + "9" * n for n in range(1, 31)], True)

    def test_thirty_one_figures_and_more(self):
        self.answers(is_number, ["9" * 31, "-" + "9" * 31, "1" + "0" * 30, "-1" + "0" * 30, "1" * 5000], False)

    def test_a_minus_alone_or_twice(self):
        self.answers(is_number, ["-", "--", "--1", "-" * 30], False)

    def test_a_minus_at_another_place(self):
        self.answers(is_number, ["1-", "1-1", "-1-", "-1-1", "0-", "0-1"], False)

    def test_the_empty_word_is_no_number(self):
        self.answers(is_number, [""], False)

    def test_other_signs_among_the_figures(self):
        for sign in SIGNS + SIGNS_OF_OTHER_SCRIPTS:
            if sign not in FIGURES:
                words = [word for word in at_begin_middle_end(sign, "12") if word != "-12"]
                self.answers(is_number, words + ["-" + word for word in words], False)

    def test_what_python_alone_would_read_as_a_number(self):
        self.answers(is_number, ["+1", " 1", "1 ", "1_0", "1\n", "\n1", "\t1", "0x1", "1e3", "1.0", "-_1", "- 1"], False)


if __name__ == "__main__":
    unittest.main()
