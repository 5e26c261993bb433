"""Promises [13] and [14]: all later grammars, and which LINEs last in them."""

import unittest
from itertools import product

import samples
from keptlines.grammars import KINDS, is_grammar, with_options
from keptlines.reading import lasts, meaning
from samples import EXAMPLE, grammar

MANY = (("file", "many"),)

# All that one OPTION more can bring to the small grammars below.
MORE_NAMES = [a + b for a, b in product("abc", repeat=2)] + [
    "a-a", "a-b", "ab-a", "aba", "abb", "abc", "abca", "abcz", "abz", "az", "a-z", "bz", "ab-z",
]
MORE_LETTERS = ("", "a", "b", "z", "0", "5")


def later_grammars(one):
    """GRAMMARs that are LATER than this one: more OPTIONs, or more LETTERs, in any order."""
    options, places, modes = one
    yield (options[::-1], places, modes)
    for name, letter, kind in product(MORE_NAMES, MORE_LETTERS, KINDS):
        more = options + ((name, letter, kind),)
        if is_grammar((more, places, modes)):
            yield (more, places, modes)
            yield (more[::-1], places, modes)
    for at, (name, letter, kind) in enumerate(options):
        for more in MORE_LETTERS:
            new = options[:at] + ((name, more, kind),) + options[at + 1:]
            if letter == "" and is_grammar((new, places, modes)):
                yield (new, places, modes)


class LastsTests(unittest.TestCase):
    def check(self, one, right, *lines):
        for line in lines:
            self.assertIs(lasts(one, line), right, line)

    def test_shortenings(self):
        for mixed, minus in product((True, False), repeat=2):
            one = (EXAMPLE[0], EXAMPLE[1], (True, mixed, minus))
            self.check(one, True, ("--color", "a"), ("--color=a",), ("--copy",), ("--verbose",), ("-v",),
                       ("-ca",), ("-c", "--col"), ("--", "--col"), ("--color", "--cop"))
            self.check(one, False, ("--colo", "a"), ("--col=a",), ("--cop",), ("--v",), ("--v", "--verbose"),
                       ("--verbose", "--v"), ("-v", "--v", "--", "a"))

    def test_a_name_that_is_the_beginning_of_another_one(self):
        one = grammar([("ab", "", "flag"), ("abcd", "", "all")], MANY)
        self.check(one, True, ("--ab",), ("--abcd", "--abc"))
        self.check(one, False, ("--abc", "a"), ("--abc=",), ("--ab", "--abc="))

    def test_number_words(self):
        for short in (True, False):
            one = grammar(EXAMPLE[0], MANY, (short, True, True))
            self.check(one, False, ("-5",), ("a", "-0"), ("-0", "a"), ("-v", "-77", "-v"))
            self.check(one, True, ("--", "-5"), ("-c", "-5"), ("--color", "-5"), ("-c-5",), ("--color=-5",),
                       ("5",), ("-",), ("a", "--", "-5"))
            closed = grammar(EXAMPLE[0], MANY, (short, False, True))
            self.check(closed, False, ("-5",), ("-v", "-5", "a"), ("-5", "-5"))
            self.check(closed, True, ("a", "-5"), ("", "-5"), ("--", "-5"), ("-c", "-5", "a", "-5"))

    def test_a_figure_as_a_letter(self):
        one = grammar([("five", "5", "count"), ("six", "6", "last")], MANY)
        self.check(one, True, ("-5",), ("-55", "a"), ("-67",), ("-56", "-0"), ("--", "-0"))
        self.check(one, False, ("-0",), ("--fi",))

    def test_refused_lines_do_not_last(self):
        self.check(EXAMPLE, False, ("--co",), ("--none",), ("-z",), ("-c",), ("--copy=a",), ("---",))
        self.check(grammar(EXAMPLE[0], ()), False, ("a",), ("-v", ""))
        self.check(grammar((), [("file", "one")]), False, (), ("a", "b"))
        self.check(grammar([("ab", "a", "once")]), False, ("-aa", "-aa"), ("--ab=", "--ab="))

    def test_the_empty_line(self):
        self.check(EXAMPLE, True, (), ("",), ("--",))

    def test_it_returns_true_or_false(self):
        self.assertIs(lasts(EXAMPLE, ()), True)
        self.assertIs(lasts(EXAMPLE, ("-5",)), False)
        self.assertIs(lasts(EXAMPLE, ("--co",)), False)


class FactTests(unittest.TestCase):
    """A LINE lasts exactly if no LATER GRAMMAR gives it another MEANING."""

    SETS = (
        (),
        (("ab", "", "flag"),),
        (("ab", "a", "last"), ("abb", "", "maybe")),
        (("abc", "b", "maybe"), ("a-b", "", "once")),
        (("ba", "0", "all"), ("ab", "b", "count")),
    )
    WORDS = ("", "-", "--", "-5", "-a", "-b5", "--a", "--ab", "--ab=", "--abc", "--a-", "--b=a")

    def check(self, one, lines):
        old = [(line, meaning(one, line)) for line in lines]
        accepted = [pair for pair in old if pair[1] is not None]
        kept = {line: True for line, _ in accepted}
        for later in later_grammars(one):
            for line, what in accepted:
                if kept[line] and meaning(later, line) != what:
                    kept[line] = False
        for line in lines:
            self.assertIs(lasts(one, line), kept.get(line, False), (one, line))

    def test_lines(self):
        lines = [line for many in range(3) for line in product(self.WORDS, repeat=many)]
        for options in self.SETS:
            for modes in ((True, True, True), (True, False, True), (False, True, True), (True, True, False)):
                self.check(grammar(options, MANY, modes), lines)

    def test_lines_without_place_words(self):
        lines = [(word,) for word in self.WORDS] + [("--",), ("--ab", "-5")]
        for options in self.SETS:
            self.check(grammar(options, ()), lines)

    def test_a_grammar_of_24_options(self):
        full = grammar(samples.many_options(24), MANY)
        self.assertIs(lasts(full, ("--op-a", "-a", "-x")), True)
        self.assertIs(lasts(full, ("-5",)), False)
        self.assertIs(lasts(grammar([("ab", "", "flag")]), ("--a",)), False)

    def test_one_option_more_breaks_a_line(self):
        more = with_options(EXAMPLE, (("colx", "", "flag"), ("five", "5", "flag")))
        self.assertIsNone(meaning(more, ("--col", "a")))
        self.assertEqual(meaning(more, ("-5",)), ((("five", 1),), ()))
        self.assertEqual(meaning(more, ("--color", "a")), meaning(EXAMPLE, ("--color", "a")))


if __name__ == "__main__":
    unittest.main()
