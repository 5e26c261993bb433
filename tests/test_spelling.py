"""Promises [16] and [17]: least LINEs with a MEANING, those that last, and common ones."""

import unittest
from itertools import product

import pool
import samples
from keptlines.errors import BadGrammar, BadMeaning, BadQuestion
from keptlines.reading import lasts, meaning, meaning_by
from keptlines.rules import Rules
from keptlines.spelling import least, least_common, least_lasting
from keptlines.words import size
from samples import EXAMPLE, grammar

MANY = (("file", "many"),)
FULL_NAMES = [letter * 6 + "-" + "abcde" for letter in samples.LETTERS[:24]]
FIVE = (("pa", "one"), ("pb", "may"), ("pc", "many"), ("pd", "one"), ("pe", "may"))


class SpellingTests(unittest.TestCase):
    def has(self, one, held, words, line, found):
        """The LINE found has the MEANING, and it is as long as the one told."""
        filled = (("file", tuple(words)),) if words else ()
        self.assertIsInstance(found, tuple)
        self.assertEqual(meaning(one, found), (tuple(held), filled), found)
        self.assertEqual(meaning(one, line), (tuple(held), filled), line)
        self.assertEqual(size(found), size(line), (found, line))

    def least(self, one, held, words, line, lasting=None):
        """A least LINE is as long as this one, and one that lasts as the second one, or as the first."""
        thing = (tuple(held), (("file", tuple(words)),) if words else ())
        lasting = line if lasting is None else lasting
        self.has(one, held, words, line, least(one, thing))
        self.has(one, held, words, lasting, least_lasting(one, thing))
        self.assertIs(lasts(one, lasting), True)
        self.assertIs(lasts(one, least_lasting(one, thing)), True)


class OptionTests(SpellingTests):
    def test_the_example(self):
        self.least(EXAMPLE, [("color", "-v"), ("verbose", 2)], ["a", "-5"], ("-vvc-v", "a", "-5"),
                   ("-vvc-v", "--", "a", "-5"))
        self.least(EXAMPLE, [("copy", 1)], [], ("--cop",), ("--copy",))

    def test_nothing(self):
        self.least(EXAMPLE, [], [], ())
        self.least(grammar(), [], [], ())

    def test_letters_are_joined(self):
        one = grammar([("ab", "a", "flag"), ("cd", "c", "count"), ("ef", "e", "last"), ("gh", "g", "maybe")])
        self.least(one, [("ab", 1)], [], ("-a",))
        self.least(one, [("ab", 1), ("cd", 3)], [], ("-accc",))
        self.least(one, [("ab", 1), ("cd", 2), ("ef", "x")], [], ("-accex",))
        self.least(one, [("ab", 1), ("ef", "x"), ("gh", "y")], [], ("-aex", "-gy"))
        self.least(one, [("ab", 1), ("gh", 1)], [], ("-ag",))
        self.least(one, [("ab", 1), ("ef", ""), ("gh", "")], [], ("-ae", "", "--g="), ("-ae", "", "--gh="))

    def test_values(self):
        for kind in ("once", "last"):
            one, none = grammar([("abc", "a", kind)]), grammar([("abc", "", kind)])
            for value in ("x", "-", "--", "-5", "=", "=x", "abc", "-a"):
                self.least(one, [("abc", value)], [], ("-a" + value,))
                self.least(none, [("abc", value)], [], ("--a=" + value,), ("--abc=" + value,))
            self.least(one, [("abc", "")], [], ("-a", ""))
            self.least(none, [("abc", "")], [], ("--a=",), ("--abc=",))

    def test_all_values_in_their_order(self):
        one, none = grammar([("abc", "a", "all"), ("bb", "b", "flag")]), grammar([("abc", "", "all")])
        self.least(one, [("abc", ("", "x", "", "-")), ("bb", 1)], [], ("-ba", "", "-ax", "-a", "", "-a-"))
        self.least(none, [("abc", ("", "x", "x"))], [], ("--a=", "--a=x", "--a=x"), ("--abc=", "--abc=x", "--abc=x"))

    def test_maybe(self):
        one, none = grammar([("abc", "a", "maybe")]), grammar([("abc", "", "maybe")])
        self.least(one, [("abc", 1)], [], ("-a",))
        self.least(one, [("abc", "")], [], ("--a=",), ("--abc=",))
        self.least(one, [("abc", "1")], [], ("-a1",))
        self.least(none, [("abc", 1)], [], ("--a",), ("--abc",))
        self.least(none, [("abc", "")], [], ("--a=",), ("--abc=",))
        self.least(none, [("abc", "x")], [], ("--a=x",), ("--abc=x",))

    def test_counts(self):
        one, none = grammar([("abc", "a", "count")]), grammar([("abc", "", "count")])
        for many in (1, 2, 40):
            self.least(one, [("abc", many)], [], ("-" + "a" * many,))
            self.least(none, [("abc", many)], [], ("--a",) * many, ("--abc",) * many)

    def test_names_that_are_the_beginnings_of_others(self):
        one = grammar([("ab", "", "flag"), ("abcd", "", "flag"), ("abd", "", "once"), ("b-b", "", "count")])
        self.least(one, [("ab", 1), ("abcd", 1), ("abd", "x"), ("b-b", 1)], [],
                   ("--ab", "--abc", "--abd=x", "--b"), ("--ab", "--abcd", "--abd=x", "--b-b"))
        off = one[:2] + ((False, True, True),)
        self.least(off, [("abcd", 1), ("b-b", 1)], [], ("--abcd", "--b-b"))

    def test_figures_as_letters(self):
        one = grammar([("ab", "5", "flag"), ("cd", "0", "last")], MANY)
        self.least(one, [("ab", 1)], [], ("-5",))
        self.least(one, [("ab", 1), ("cd", "7")], [], ("-507",))
        self.least(one, [("ab", 1)], ["-5"], ("-5", "--", "-5"))


class PlaceWordTests(SpellingTests):
    def test_words_that_are_not_dashed(self):
        for modes in samples.ALL_MODES:
            one = grammar([("ab", "a", "flag")], MANY, modes)
            for words in ([""], ["-"], ["a", "", "=", "5"]):
                self.least(one, [], words, tuple(words))
                self.least(one, [("ab", 1)], words, ("-a", *words))

    def test_dashed_words(self):
        for short, minus in product((True, False), repeat=2):
            on, off = (grammar([("ab", "a", "flag")], MANY, (short, mixed, minus)) for mixed in (True, False))
            for word in ("--", "-a", "--ab", "-5a", "---", "-."):
                for one in (on, off):
                    self.least(one, [], [word], ("--", word))
                    self.least(one, [], [word, "a"], ("--", word, "a"))
                self.least(on, [("ab", 1)], ["x", word], ("-a", "--", "x", word))
                self.least(off, [("ab", 1)], ["x", word], ("-a", "x", word))

    def test_number_words(self):
        one = grammar([("ab", "a", "flag")], MANY)
        self.least(one, [], ["-5"], ("-5",), ("--", "-5"))
        self.least(one, [("ab", 1)], ["-5", "x"], ("-a", "-5", "x"), ("-a", "--", "-5", "x"))
        self.least(one, [], ["-5", "-a"], ("--", "-5", "-a"))
        off = one[:2] + ((True, False, True),)
        self.least(off, [], ["-5", "-a"], ("-5", "-a"), ("--", "-5", "-a"))
        self.least(off, [], ["x", "-5"], ("x", "-5"))
        self.least(off, [], ["-a", "-5"], ("--", "-a", "-5"))
        for modes in ((True, True, False), (True, False, False)):
            self.least(one[:2] + (modes,), [], ["-5"], ("--", "-5"))

    def test_several_places(self):
        one = grammar([("ab", "a", "flag")], FIVE)
        words = [str(number) for number in range(7)]
        what = meaning(one, tuple(words))
        self.assertEqual(least(one, what), tuple(words))
        self.assertEqual(least_lasting(one, what), tuple(words))


class LongTests(unittest.TestCase):
    """LINEs with more than 80 WORDs, and longer ones, can be told, too."""

    def test_large_meanings(self):
        for kind, what in (("all", ("-" + "x" * 79,) * 20), ("count", 40), ("last", "x" * 80),
                           ("maybe", 1), ("flag", 1)):
            for letters in (True, False):
                one = grammar([(name, name[0] if letters else "", kind) for name in FULL_NAMES], FIVE)
                held = tuple((name, what) for name in sorted(FULL_NAMES))
                filled = (("pa", ("--",)), ("pb", ("",)), ("pc", ("x" * 80,) * 36), ("pd", ("-5",)), ("pe", ("",)))
                for call in (least, least_lasting):
                    line = call(one, (held, filled))
                    self.assertEqual(meaning_by(Rules(one), line), (held, filled))
                self.assertEqual(least(one, (held, filled)), least_common((one,) * 3, (held, filled)))

    def test_long_lines(self):
        one = grammar([("ab", "", "count"), ("cd", "", "all")], MANY)
        line = least(one, ((("ab", 40), ("cd", ("x" * 80,) * 20)), (("file", ("-",) * 40),)))
        self.assertEqual(len(line), 100)
        self.assertEqual(max(len(word) for word in line), 84)


class CommonTests(SpellingTests):
    def common(self, grammars, held, words, line):
        thing = (tuple(held), (("file", tuple(words)),) if words else ())
        found = least_common(tuple(grammars), thing)
        for one in grammars:
            self.has(one, held, words, line, found)

    def test_one_grammar_alone(self):
        self.common([EXAMPLE], [("color", "-v"), ("verbose", 2)], ["a", "-5"], ("-vvc-v", "a", "-5"))
        self.common([EXAMPLE] * 3, [("copy", 1)], [], ("--cop",))

    def test_shortenings_that_all_have(self):
        one = grammar([("color", "", "flag")], MANY)
        other = grammar([("color", "", "flag"), ("copy", "", "flag")], MANY)
        third = grammar([("color", "", "flag"), ("colour", "", "flag")], MANY)
        self.common([one], [("color", 1)], [], ("--c",))
        self.common([one, other], [("color", 1)], [], ("--col",))
        self.common([other, one, third], [("color", 1)], [], ("--color",))
        self.common([one, one[:2] + ((False, True, True),)], [("color", 1)], [], ("--color",))
        name = grammar([("color", "", "flag"), ("col", "", "flag")], MANY)
        self.common([one, name], [("color", 1)], [], ("--colo",))
        self.common([one, other, name], [("color", 1)], [], ("--colo",))

    def test_modes(self):
        options = [("ab", "a", "flag")]
        on, closed, plain = (grammar(options, MANY, modes) for modes in (
            (True, True, True), (True, False, True), (True, True, False)))
        self.common([on, closed], [("ab", 1)], ["x", "-5"], ("-a", "x", "-5"))
        self.common([closed, on], [], ["x", "-b"], ("--", "x", "-b"))
        self.common([closed, closed], [], ["x", "-b"], ("x", "-b"))
        self.common([on, plain], [], ["-5"], ("--", "-5"))
        self.common([plain, on], [], ["x"], ("x",))
        self.common([closed, plain], [], ["x", "-5"], ("--", "x", "-5"))
        self.common([on, grammar([("cd", "5", "flag")], MANY)], [], ["-5"], ("--", "-5"))

    def test_no_line_by_another_one(self):
        one = grammar([("ab", "a", "count"), ("cd", "", "flag")], MANY)
        for other, held, words in (
            (grammar([("ab", "a", "count")], MANY), [("cd", 1)], []),
            (grammar(one[0]), [], ["x"]),
            (grammar(one[0], [("file", "may")]), [], ["x", "y"]),
            (grammar(one[0], [("files", "many")]), [], ["x"]),
            (grammar(one[0], [("file", "many"), ("to", "one")]), [], ["x"]),
            (grammar(one[0], [("file", "one")]), [], []),
        ):
            thing = (tuple(held), (("file", tuple(words)),) if words else ())
            self.assertIsNone(least_common((one, other), thing))
            self.assertIsNone(least_common((one, one, other, one), thing))
            with self.assertRaises(BadMeaning):
                least_common((other, one), thing)

    def test_unlike_letters_and_kinds(self):
        one = grammar([("ab", "a", "flag"), ("cd", "", "flag")])
        for options in ([("ab", "b", "flag")], [("ab", "", "flag")], [("ab", "a", "count")], [("cd", "c", "flag")],
                        [("cd", "", "maybe")]):
            other = grammar(options)
            for row in ((one, other), (other, one), (one, one, other), (grammar(), one, other)):
                for thing in (((), ()), None, ((None,), ())):
                    with self.assertRaises(BadQuestion):
                        least_common(row, thing)
        self.assertEqual(least_common((one, grammar([("ef", "a", "last")])), ((), ())), ())

    def test_a_letter_that_has_another_owner(self):
        one = grammar([("ab", "a", "flag")])
        other = grammar([("cd", "a", "flag")])
        self.assertIsNone(least_common((one, other), ((("ab", 1),), ())))

    def test_which_error_comes_first(self):
        one, other = grammar([("ab", "a", "flag")]), grammar([("ab", "b", "flag")])
        for row, place in (((one, other, None), ()), ((None, ((), (), None)), ()),
                           ((one, ((), (), None), None), ("modes",))):
            with self.assertRaises(BadGrammar) as caught:
                least_common(row, None)
            self.assertEqual(caught.exception.place, place)
        with self.assertRaises(BadMeaning) as caught:
            least_common((one, grammar([("xy", "", "flag")])), ((("xy", 1),), ()))
        self.assertEqual(caught.exception.place, ("held", 0))


class FactTests(unittest.TestCase):
    """No shorter LINE has the MEANING, of all short LINEs over small GRAMMARs."""

    MOST = 5

    @classmethod
    def setUpClass(cls):
        longer = [line for line in pool.lines() if pool.line_size(line) > cls.MOST]
        cls.lines = pool.all_lines(cls.MOST, "ab-=5") + longer

    def least_sizes(self, one, others):
        """The least SIZEs of LINEs with each MEANING, of those that last, and of common ones."""
        found, lasting, common = {}, {}, {}
        for line in self.lines:
            what = meaning(one, line)
            if what is None:
                continue
            found.setdefault(what, pool.line_size(line))
            if what not in lasting and lasts(one, line):
                lasting[what] = pool.line_size(line)
            if what not in common and all(meaning(other, line) == what for other in others):
                common[what] = pool.line_size(line)
        return found, lasting, common

    def check(self, one, what, line, wanted):
        self.assertEqual(meaning(one, line), what, line)
        self.assertLessEqual(size(line), wanted.get(what, 100), (one, what, line))
        if size(line) <= self.MOST:
            self.assertEqual(size(line), wanted[what], (one, what, line))

    def test_small_grammars(self):
        places = (("file", "may"), ("more", "many"))
        closed = (True, False, True)
        for one, *others in (
            [grammar([("ab", "a", "flag"), ("abb", "", "last")], places),
             grammar([("ab", "a", "flag"), ("abb", "", "last"), ("ba", "", "flag")], places, (True, True, False))],
            [grammar([("ab", "a", "count"), ("ba", "b", "all")], places, closed),
             grammar([("ba", "b", "all"), ("ab", "a", "count")], places, (False, True, True))],
            [grammar([("ab", "a", "maybe"), ("ba", "5", "once")], places),
             grammar([("ab", "a", "maybe"), ("ba", "5", "once"), ("bb", "0", "flag")], places, closed)],
            [grammar([("ab", "", "maybe"), ("ba", "b", "flag"), ("bb", "a", "flag")], places),
             grammar([("ab", "", "maybe"), ("ba", "b", "flag")], places),
             grammar([("ab", "", "maybe"), ("ba", "b", "flag")], [("file", "may")], closed)],
            [grammar([("ab", "", "once"), ("aa", "", "all")], [("file", "one")]),
             grammar([("ab", "", "once"), ("aa", "", "all")], [("file", "one"), ("more", "may")])],
        ):
            found, lasting, common = self.least_sizes(one, others)
            self.assertGreater(len(found), 50)
            for what in found:
                self.check(one, what, least(one, what), found)
                line = least_lasting(one, what)
                self.assertIs(lasts(one, line), True)
                self.check(one, what, line, lasting)
                line = least_common((one, *others), what)
                if line is None:
                    self.assertNotIn(what, common)
                else:
                    self.check(one, what, line, common)
                    self.assertEqual([meaning(other, line) for other in others], [what] * len(others))


if __name__ == "__main__":
    unittest.main()
