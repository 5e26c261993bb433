"""Promise [2]: SIGN, WORD, LINE, SIZE; and what is a NAME [3]."""

import unittest

import samples
from keptlines import words
from keptlines.errors import BadLine

SIGNS = "abcdefghijklmnopqrstuvwxyz0123456789-=."


class WordTests(unittest.TestCase):
    def test_limits(self):
        self.assertEqual((words.MOST_SIGNS, words.MOST_WORDS), (80, 80))

    def test_each_sign_alone_is_a_word(self):
        for code in range(128):
            self.assertIs(words.is_word(chr(code)), chr(code) in SIGNS, code)

    def test_words(self):
        for word in ("", "-", "--", "--=", "-=", "a.b=c-9", SIGNS, SIGNS + SIGNS + "a."):
            self.assertIs(words.is_word(word), True, word)

    def test_length(self):
        self.assertIs(words.is_word("a" * 80), True)
        self.assertIs(words.is_word("a" * 81), False)
        self.assertIs(words.is_word("a" * 10 ** 6), False)

    def test_a_bad_sign_anywhere(self):
        for word in ("Aa", "aA", "a a", " a", "a\n", "a_", "a/b", "a,b", "a+b"):
            self.assertIs(words.is_word(word), False, word)

    def test_other_kinds_are_no_word(self):
        for thing in samples.odd_things() + samples.odd_tuples() + [(), ("ab",)]:
            self.assertIs(words.is_word(thing), False, samples.show(thing))


class NameTests(unittest.TestCase):
    def test_names(self):
        for name in ("ab", "a-b", "a--b", "co", "color", "zz", "abcdefghijkl"):
            self.assertIs(words.is_name(name), True, name)

    def test_length(self):
        for count, right in ((0, False), (1, False), (2, True), (12, True), (13, False)):
            self.assertIs(words.is_name("a" * count), right, count)

    def test_a_letter_stands_at_both_ends(self):
        for name in ("-a", "a-", "--", "-ab", "ab-", "-a-"):
            self.assertIs(words.is_name(name), False, name)

    def test_signs_of_names(self):
        for code in range(128):
            right = chr(code) in "abcdefghijklmnopqrstuvwxyz-"
            self.assertIs(words.is_name("a" + chr(code) + "b"), right, code)
        for name in ("0a", "a0", "a.", "=a", "ab\n", "\nab", "a ", "Ab"):
            self.assertIs(words.is_name(name), False, name)

    def test_other_kinds_are_no_name(self):
        for thing in samples.odd_things() + samples.odd_tuples() + [("a", "b"), ("ab",)]:
            self.assertIs(words.is_name(thing), False, samples.show(thing))


class LineTests(unittest.TestCase):
    def refused(self, thing, place):
        for call in (words.need_line, words.size):
            with self.assertRaises(BadLine, msg=samples.show(thing)) as caught:
                call(thing)
            self.assertEqual(caught.exception.place, place, samples.show(thing))
            self.assertIs(caught.exception.__class__, BadLine)

    def test_a_line_is_returned_itself(self):
        for line in ((), ("",), ("a", "--b=c"), ("a" * 80,) * 80):
            self.assertIs(words.need_line(line), line)

    def test_sizes(self):
        self.assertEqual(words.size(()), 0)
        self.assertEqual(words.size(("",)), 1)
        self.assertEqual(words.size(("", "", "")), 3)
        self.assertEqual(words.size(("a",)), 2)
        self.assertEqual(words.size(("--color=red", "", "-v")), 16)
        self.assertEqual(words.size(("a" * 80,) * 80), 81 * 80)

    def test_a_size_is_an_integer(self):
        self.assertIs(words.size(("",)).__class__, int)
        self.assertIs(words.size(()).__class__, int)

    def test_80_words_and_81(self):
        self.assertEqual(words.size(("",) * 80), 80)
        self.refused(("",) * 81, ())
        self.refused((None,) * 81, ())

    def test_80_signs_and_81(self):
        self.assertEqual(words.size(("", "a" * 80)), 82)
        self.refused(("", "a" * 81), (1,))

    def test_the_first_item_that_is_no_word(self):
        self.refused(("A",), (0,))
        self.refused(("a", "", "B", "C"), (2,))
        self.refused(("a",) * 79 + (None,), (79,))

    def test_other_kinds_of_items(self):
        for thing in samples.odd_things() + samples.odd_tuples() + [(), ("ab",)]:
            self.refused((thing,), (0,))
            self.refused(("a", thing, None), (1,))

    def test_other_kinds_are_no_line(self):
        for thing in samples.odd_things() + ["", "ab", "--color", ["a"]]:
            self.refused(thing, ())


class KindOfWordTests(unittest.TestCase):
    def test_dashed_words(self):
        for word in ("--", "-a", "-=", "--=", "---", "-5", "-."):
            self.assertIs(words.is_dashed(word), True, word)
        for word in ("", "-", "a", "a-", "=", ".", "5-5"):
            self.assertIs(words.is_dashed(word), False, word)

    def test_number_words(self):
        for word in ("-0", "-5", "-0123456789", "-00", "-" + "7" * 79):
            self.assertIs(words.is_number(word), True, word)
        for word in ("", "-", "5", "--5", "-5-", "-5.5", "-5e5", "-a5", "-.5", "-=5", "--"):
            self.assertIs(words.is_number(word), False, word)


if __name__ == "__main__":
    unittest.main()
