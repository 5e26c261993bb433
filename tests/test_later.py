"""Promises [13] to [15]: which GRAMMARs are LATER, what breaks a LINE, and which GRAMMARs are FIRM."""

import unittest
from itertools import permutations, product

import pool
import samples
from keptlines.errors import BadGrammar, BadLine, BadQuestion
from keptlines.grammars import is_grammar
from keptlines.keeping import keeps
from keptlines.lasting import breaker, is_firm, is_later
from keptlines.reading import lasts, meaning
from pool import KINDS
from samples import EXAMPLE, ON, grammar

MANY = (("file", "many"),)
SHORT_NAMES = ["a" + sign for sign in "abcdefghijklmnopqrstuvw"]
LONG_NAMES = [letter * 6 + "-" + "abcde" for letter in samples.LETTERS[:24]]


class LaterTests(unittest.TestCase):
    OPTIONS = (("ab", "a", "last"), ("cd", "", "maybe"))

    def check(self, right, options, places=MANY, modes=ON):
        self.assertIs(is_later(grammar(self.OPTIONS, MANY), grammar(options, places, modes)), right)

    def test_itself(self):
        for one in (grammar(), EXAMPLE, grammar(samples.many_options(24), samples.many_places(5))):
            self.assertIs(is_later(one, one), True)

    def test_further_options_in_any_order(self):
        more = self.OPTIONS + (("xy", "x", "all"), ("c-d", "0", "flag"))
        for options in permutations(more):
            self.check(True, options)
        self.check(True, self.OPTIONS + samples.many_options(22)[1:])

    def test_options_that_are_dropped(self):
        for options in ((), self.OPTIONS[:1], self.OPTIONS[1:], self.OPTIONS[:1] + (("ce", "", "maybe"),)):
            self.check(False, options)

    def test_letters(self):
        for letter in ("", "b", "5"):
            self.check(letter == "a", (("ab", letter, "last"), ("cd", "", "maybe")))
        for letter in ("", "b", "5"):
            self.check(True, (("ab", "a", "last"), ("cd", letter, "maybe")))

    def test_kinds(self):
        for kind in KINDS:
            self.check(kind == "last", (("ab", "a", kind), ("cd", "", "maybe")))
            self.check(kind == "maybe", (("ab", "a", "last"), ("cd", "x", kind)))
        for old, new in product(KINDS, repeat=2):
            one, other = grammar([("ab", "", old)]), grammar([("ab", "a", new)])
            self.assertIs(is_later(one, other), old == new)

    def test_places(self):
        for places in ((), [("file", "may")], [("files", "many")], [("file", "many"), ("to", "may")]):
            self.check(False, self.OPTIONS, places)
        two = [("aa", "one"), ("bb", "may")]
        self.assertIs(is_later(grammar((), two), grammar((), two[::-1])), False)
        self.assertIs(is_later(grammar((), two), grammar((), two)), True)

    def test_modes(self):
        for one, other in product(samples.ALL_MODES, repeat=2):
            self.assertIs(is_later(grammar((), MANY, one), grammar((), MANY, other)), one == other)

    def test_it_is_not_the_same_as_keeping(self):
        one, other = grammar([("ab", "", "flag")]), grammar([("ab", "", "flag"), ("ac", "", "flag")])
        self.assertIs(is_later(one, other), True)
        self.assertIs(keeps(one, other), False)
        one, other = grammar([("ab", "", "once")]), grammar([("ab", "", "last")])
        self.assertIs(is_later(one, other), False)
        self.assertIs(keeps(one, other), True)

    def test_what_has_more_than_24_options_is_no_grammar(self):
        one, other = grammar(), grammar(samples.many_options(25))
        for old, new in ((one, other), (other, one), (other, other)):
            with self.assertRaises(BadGrammar) as caught:
                is_later(old, new)
            self.assertEqual(caught.exception.place, ("options",))


class BreakerTests(unittest.TestCase):
    def breaks(self, one, line):
        """One OPTION more, behind those that are there, and it gives the LINE another MEANING."""
        found = breaker(one, line)
        self.assertTrue(is_grammar(found), found)
        self.assertEqual(found[0][:-1], one[0])
        self.assertEqual(found[1:], one[1:])
        self.assertIs(is_later(one, found), True)
        self.assertIsNotNone(meaning(one, line))
        self.assertNotEqual(meaning(found, line), meaning(one, line))
        return found

    def lasts(self, one, line):
        self.assertIsNone(breaker(one, line), line)

    def refused(self, one, *lines):
        for line in lines:
            with self.assertRaises(BadQuestion):
                breaker(one, line)

    def test_shortenings(self):
        for line in (("--v",), ("--col=red",), ("--colo", "a"), ("--cop",), ("-v", "--verbos", "a")):
            self.breaks(EXAMPLE, line)
        for line in ((), ("--color", "--col"), ("--verbose", "a"), ("-ca",), ("--", "--col")):
            self.lasts(EXAMPLE, line)

    def test_shortenings_with_each_sign_behind_them(self):
        for name in ("va", "vb", "vaa", "va-a", "v-b"):
            for line in (("--" + name[:-1],), ("--v",)):
                for short in (grammar([(name, "", "flag")]), grammar([("x" + name, "", "flag"), (name, "", "count")])):
                    self.breaks(short, line)

    def test_the_longest_shortening(self):
        for sign in "abz":
            found = self.breaks(grammar([("abcdefghijk" + sign, "", "flag")]), ("--abcdefghijk",))
            self.assertEqual(len(found[0][-1][0]), 12)

    def test_number_words(self):
        for one in (EXAMPLE, grammar((), MANY), grammar((), MANY, (False, False, True))):
            for word in ("-0", "-00", "-5", "-95", "-" + "1" * 79):
                self.breaks(one, (word,))
                self.breaks(one, (word, "a"))
                self.lasts(one, ("--", word))
        self.lasts(grammar((), MANY, (False, False, True)), ("a", "-5"))
        self.lasts(EXAMPLE, ("-c", "-5"))

    def test_names_that_are_taken(self):
        for many in (1, 2, 22, 23):
            one = grammar([(name, "", "flag") for name in SHORT_NAMES[:many]], MANY, (False, True, True))
            self.breaks(one, ("-5",))
            self.lasts(one, ("--aa",))

    def test_both_at_once(self):
        self.breaks(EXAMPLE, ("--v", "-5"))
        self.breaks(EXAMPLE, ("-5", "--v"))

    def test_lines_that_are_refused(self):
        self.refused(EXAMPLE, ("--co",), ("-c",), ("-z",), ("--copy=a",), ("--none", "--v"), ("-5", "--color"))
        self.refused(grammar([("ab", "", "flag")], [("file", "one")]), (), ("--a",), ("--ab",), ("", ""))

    def test_24_options(self):
        for names in (SHORT_NAMES + ["xyz"], LONG_NAMES):
            one = grammar([(name, "", "last") for name in names], MANY)
            self.refused(one, ("-5",), ("--" + names[-1][:2], "a"), ("--none",), ("--" + names[0],))
            self.lasts(one, ("--" + names[0], "a", "--", "-5"))
            self.lasts(one, ())
            shorter = (one[0][:-1],) + one[1:]
            self.breaks(shorter, ("-5",))
        self.breaks(grammar([(name, "", "last") for name in LONG_NAMES[:23]], MANY), ("--a", ""))

    def test_lines_of_80_words_and_81(self):
        self.breaks(EXAMPLE, ("a",) * 79 + ("-5",))
        self.lasts(EXAMPLE, ("a",) * 80)
        with self.assertRaises(BadLine) as caught:
            breaker(EXAMPLE, ("a",) * 81)
        self.assertEqual(caught.exception.place, ())

    def test_wrong_lines(self):
        for thing in samples.odd_things():
            for line, place in ((thing, ()), ((thing,), (0,)), (("--none", thing, thing), (1,))):
                with self.assertRaises(BadLine) as caught:
                    breaker(grammar(samples.many_options(24)), line)
                self.assertEqual(caught.exception.place, place)
        with self.assertRaises(BadLine):
            breaker(EXAMPLE, ["--v"])


class FirmTests(unittest.TestCase):
    def test_shortenings(self):
        for mixed in (True, False):
            for names, firm in ((["ab"], False), (["aa", "ab"], True), (["ab", "abc"], True), (["ab", "abcd"], False),
                                (["aa", "ab", "b-b"], False),
                                (["ab", "ac", "abd", "acd"], True), ([], True)):
                one = grammar([(name, "", "flag") for name in names], (), (True, mixed, False))
                self.assertIs(is_firm(one), firm, names)
                self.assertIs(is_firm(one[:2] + ((False, mixed, False),)), True)

    def test_number_words(self):
        for short, mixed in product((True, False), repeat=2):
            for places in ([("file", "one")], [("file", "may")], [("file", "many")]):
                self.assertIs(is_firm(grammar((), places, (short, mixed, True))), False)
                self.assertIs(is_firm(grammar((), places, (short, mixed, False))), True)
                five = grammar([("aa", "5", "flag"), ("ab", "a", "flag")], places, (short, mixed, True))
                self.assertIs(is_firm(five), True)
            self.assertIs(is_firm(grammar((), (), (short, mixed, True))), True)

    def test_24_options(self):
        full = grammar([(name, "", "flag") for name in LONG_NAMES], samples.many_places(5), (False, True, False))
        self.assertIs(is_firm(full), True)
        self.assertIs(is_firm(full[:2] + ((True, True, False),)), False)
        self.assertIs(is_firm(full[:2] + ((False, True, True),)), False)


class FactTests(unittest.TestCase):
    """The Facts of [14] and [15], by the MEANINGs of all short LINEs."""

    def setUp(self):
        self.grammars = pool.grammars()
        self.lines = pool.lines()

    def test_breakers_and_firm_ones(self):
        told = {"lasts": 0, "breaks": 0, "refused": 0}
        for one in self.grammars:
            firm = True
            for line in self.lines:
                what = meaning(one, line)
                if what is None:
                    with self.assertRaises(BadQuestion):
                        breaker(one, line)
                    told["refused"] += 1
                    continue
                found = breaker(one, line)
                self.assertIs(found is None, lasts(one, line), (one, line))
                if found is None:
                    told["lasts"] += 1
                    continue
                firm = False
                told["breaks"] += 1
                self.assertEqual((found[0][:-1], found[1:]), (one[0], one[1:]))
                self.assertIs(is_later(one, found), True)
                self.assertNotEqual(meaning(found, line), what, (one, line, found))
            self.assertIs(is_firm(one), firm, one)
        self.assertGreater(min(told.values()), 200)


if __name__ == "__main__":
    unittest.main()
