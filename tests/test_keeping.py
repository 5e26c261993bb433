"""Promises [8] to [12]: whether a GRAMMAR keeps another one, and the LINEs that are parted if not."""

import unittest
from itertools import product

import samples
from keptlines.grammars import with_options
from keptlines.keeping import are_alike, keepers, keeps, oldest, parted, touchstones
from keptlines.reading import meaning
from keptlines.words import size
from pool import KINDS
from samples import EXAMPLE, grammar

MANY = (("file", "many"),)
FULL_NAMES = [letter * 6 + "-" + "abcde" for letter in samples.LETTERS[:24]]
FIVE = (("pa", "one"), ("pb", "may"), ("pc", "many"), ("pd", "one"), ("pe", "may"))


def full(kind, places=FIVE):
    """24 OPTIONs with NAMEs of 12 SIGNs, all with LETTERs, and 5 PLACEs."""
    return grammar([(name, name[0], kind) for name in FULL_NAMES], places)


class KeepingTests(unittest.TestCase):
    def kept(self, old, new):
        self.assertIs(keeps(old, new), True, (old, new))
        self.assertIsNone(parted(old, new))

    def parts(self, old, new, *least):
        """The new one does not keep the old one, and one of these LINEs is told."""
        self.assertIs(keeps(old, new), False, (old, new))
        line = parted(old, new)
        self.assertIsInstance(line, tuple)
        self.assertIsNotNone(meaning(old, line), line)
        self.assertNotEqual(meaning(old, line), meaning(new, line), line)
        if least:
            self.assertEqual(size(line), size(least[0]), line)
            self.assertIn(line, least)


class OptionTests(KeepingTests):
    def test_each_grammar_keeps_itself(self):
        for modes in samples.ALL_MODES:
            for one in (grammar((), (), modes), grammar(EXAMPLE[0], MANY, modes), full("all", FIVE)):
                self.kept(one, one)

    def test_all_pairs_of_kinds(self):
        for old, new, before, behind in product(KINDS, KINDS, ("", "a"), ("", "a")):
            one = grammar([("ab", before, old)], MANY)
            other = grammar([("ab", behind, new)], MANY)
            right = old == new or (old, new) == ("once", "last")
            right = right or (old, new, before) == ("flag", "maybe", "")
            right = right and before in ("", behind)
            self.assertIs(keeps(one, other), right, (one, other))
            (self.kept if right else self.parts)(one, other)

    def test_the_least_lines_of_pairs_of_kinds(self):
        for old, new, letter, *lines in (
            ("flag", "maybe", "a", ("-aa",)), ("flag", "count", "a", ("-aa",)), ("count", "maybe", "a", ("-aa",)),
            ("flag", "count", "", ("--a", "--a")), ("count", "maybe", "", ("--a", "--a")),
            ("flag", "last", "a", ("-a",)), ("flag", "once", "", ("--a",)),
            ("maybe", "flag", "a", ("-aa",)), ("maybe", "flag", "", ("--a=",)), ("maybe", "all", "a", ("-a",)),
            ("last", "all", "", ("--a=",), ("--a", "")), ("last", "all", "a", ("-aa",), ("-a", "")),
            ("once", "maybe", "a", ("-a", "")), ("once", "maybe", "", ("--a", "")),
            ("last", "once", "", ("--a=", "--a="), ("--a", "", "--a", "")),
            ("last", "once", "a", ("-a", "", "-a", ""), ("-aa", "-aa")),
        ):
            self.parts(grammar([("ab", letter, old)]), grammar([("ab", letter, new)]), *lines)

    def test_a_letter_given_taken_away_and_changed(self):
        for kind in KINDS:
            without, one, other = (grammar([("ab", letter, kind)], MANY) for letter in ("", "a", "b"))
            self.kept(without, one)
            least = [("-a", "")] if kind in ("once", "last", "all") else [("-a",)]
            if kind in ("once", "last", "all"):
                least.append(("-aa",))
            self.parts(one, without, *least)
            self.parts(one, other, *least)

    def test_two_letters_exchanged(self):
        one = grammar([("ab", "a", "flag"), ("ba", "b", "flag")])
        other = grammar([("ab", "b", "flag"), ("ba", "a", "flag")])
        self.parts(one, other, ("-a",), ("-b",))
        self.kept(one, grammar([("ba", "b", "flag"), ("ab", "a", "flag")]))

    def test_an_option_dropped_or_renamed(self):
        one = grammar([("ab", "", "flag"), ("ba", "", "count")])
        self.parts(one, grammar([("ab", "", "flag")]), ("--b",))
        self.parts(one, grammar([("ab", "", "flag"), ("bb", "", "count")]), ("--b",))
        self.parts(one, grammar(), ("--a",), ("--b",))
        self.kept(grammar(), one)

    def test_shortenings_that_no_longer_tell(self):
        one = grammar([("color", "", "flag")])
        self.parts(one, with_options(one, (("copy", "", "flag"),)), ("--c",))
        self.parts(one, with_options(one, (("colour", "", "flag"),)), ("--c",))
        self.parts(one, with_options(one, (("co", "", "flag"),)), ("--c",))
        self.kept(one, with_options(one, (("verbose", "", "flag"),)))
        none = grammar([("color", "", "flag")], (), (False, True, True))
        self.kept(none, with_options(none, (("copy", "", "flag"), ("co", "", "flag"))))
        self.kept(none, one)
        self.parts(one, none, ("--c",))

    def test_a_later_shortening_tells_another_option(self):
        one = grammar([("abc", "", "flag"), ("acc", "", "flag")])
        self.parts(one, grammar([("abc", "", "flag"), ("acc", "", "flag"), ("ab", "", "flag")]), ("--ab",))
        self.parts(grammar([("abc", "", "flag")]), grammar([("abd", "", "flag")]), ("--a",))

    def test_names_that_are_the_beginnings_of_others(self):
        one = grammar([("ab", "", "flag")])
        self.parts(one, with_options(one, (("abc", "", "flag"),)), ("--a",))
        two = grammar([("ab", "", "flag"), ("abc", "", "last")])
        self.parts(two, one, ("--abc=",), ("--abc", ""))
        self.kept(two, with_options(two, (("aa", "", "flag"), ("abb", "", "flag"), ("abcd", "", "once"))))
        self.parts(grammar([("abcd", "", "flag"), ("ab", "", "flag")]),
                   grammar([("abcd", "", "flag"), ("ab", "", "flag"), ("abce", "", "flag")]), ("--abc",))

    def test_a_figure_as_a_letter(self):
        for letter in "0123456789":
            more = (("ba", letter, "flag"),)
            for modes in samples.ALL_MODES:
                one = grammar([("ab", "a", "flag")], MANY, modes)
                if modes[2]:
                    self.parts(one, with_options(one, more), ("-0",))
                else:
                    self.kept(one, with_options(one, more))
                bare = grammar([("ab", "a", "flag")], (), modes)
                self.kept(bare, with_options(bare, more))

    def test_a_figure_that_is_a_letter_already(self):
        for places in ((), MANY):
            one = grammar([("ab", "5", "flag")], places)
            self.kept(one, with_options(one, (("ba", "0", "last"),)))
            self.kept(one, one[:2] + ((True, True, False),))
            self.kept(one[:2] + ((True, True, False),), one)


class ModesTests(KeepingTests):
    def test_minus(self):
        for short, mixed in product((True, False), repeat=2):
            on, off = (short, mixed, True), (short, mixed, False)
            for places in ([("file", "one")], [("file", "may")], [("file", "many")]):
                self.parts(grammar((), places, on), grammar((), places, off), ("-0",))
                self.kept(grammar((), places, off), grammar((), places, on))
            self.kept(grammar((), (), on), grammar((), (), off))

    def test_minus_with_more_needed(self):
        two = [("aa", "one"), ("bb", "one")]
        self.parts(grammar((), two), grammar((), two, (True, True, False)), ("-0", ""))

    def test_short(self):
        one = grammar([("ab", "", "flag")])
        self.parts(one, one[:2] + ((False, True, True),), ("--a",))
        self.kept(one[:2] + ((False, True, True),), one)
        none = grammar([("aa", "", "flag"), ("ab", "", "flag")])
        self.kept(none, none[:2] + ((False, True, True),))

    def test_mixed(self):
        for short, minus in product((True, False), repeat=2):
            on, off = (short, True, minus), (short, False, minus)
            options = [("ab", "a", "flag")]
            for places, both in (
                ((), (True, True)),
                ([("file", "one")], (False, True)),
                ([("file", "may")], (False, True)),
                ([("file", "many")], (False, False)),
                ([("aa", "may"), ("bb", "may")], (False, False)),
                ([("aa", "one"), ("bb", "may")], (False, False)),
            ):
                one, other = grammar(options, places, on), grammar(options, places, off)
                self.assertEqual((keeps(one, other), keeps(other, one)), both, (one, other))
            two = [("aa", "one"), ("bb", "one")]
            self.parts(grammar(options, two, on), grammar(options, two, off), ("", "--", ""), ("", "-a", ""))
            self.parts(grammar(options, two, off), grammar(options, two, on), ("", "--"), ("", "-a"))

    def test_mixed_alone(self):
        one = [("file", "one")]
        self.parts(grammar((), one, (True, True, True)), grammar((), one, (True, False, True)), ("", "--"))


class PlacesTests(KeepingTests):
    def test_the_same_places_in_another_order(self):
        one = grammar((), [("aa", "one"), ("bb", "many")])
        self.kept(one, one)
        self.parts(one, grammar((), [("bb", "many"), ("aa", "one")]), ("", ""))
        self.parts(one, grammar((), [("bb", "one"), ("aa", "many")]), ("",))
        self.parts(grammar((), [("aa", "one"), ("bb", "one")]), grammar((), [("bb", "one"), ("aa", "one")]), ("", ""))

    def test_names_of_places(self):
        self.parts(grammar((), [("aa", "may")]), grammar((), [("ab", "may")]), ("",))
        self.parts(grammar((), [("aa", "one")]), grammar((), [("ab", "one")]), ("",))

    def test_further_places(self):
        none, may, many = grammar(), grammar((), [("aa", "may")]), grammar((), [("aa", "many")])
        one = grammar((), [("aa", "one")])
        for old, new in ((none, may), (none, many), (may, many), (one, many), (one, may),
                         (may, grammar((), [("aa", "may"), ("bb", "may")])),
                         (may, grammar((), [("aa", "may"), ("bb", "many")])),
                         (one, grammar((), [("bb", "may"), ("aa", "one")])),
                         (many, many)):
            self.kept(old, new)
        self.parts(none, one, ())
        self.parts(may, one, ())
        self.parts(may, none, ("",))
        self.parts(one, none, ("",))
        self.parts(many, may, ("", ""))
        self.parts(many, one, ())

    def test_0_to_6_place_words(self):
        names = ["pa", "pb", "pc", "pd", "pe"]
        for many in range(6):
            own = [(name, "may") for name in names[:many]]
            longer = grammar((), [*own, ("zz", "many")][:5])
            self.kept(grammar((), own), longer)
            for fewer in range(many):
                self.parts(grammar((), own), grammar((), own[:fewer]), ("",) * (fewer + 1))
            ones = [(name, "one") for name in names[:many]]
            self.kept(grammar((), ones), grammar((), own))
            self.kept(grammar((), own), grammar((), own))

    def test_the_fifth_and_the_sixth_place_word(self):
        own = [("pa", "may"), ("pb", "may"), ("pc", "may"), ("pd", "may"), ("pe", "many")]
        last = grammar((), own)
        self.parts(last, grammar((), own[:4] + [("pe", "may")]), ("",) * 6)
        self.parts(last, grammar((), own[:4]), ("",) * 5)
        self.parts(last, grammar((), own[:3] + [("pd", "many"), ("pe", "may")]), ("",) * 4)
        ones = [("pa", "one"), ("pb", "one"), ("pc", "one"), ("pd", "one")]
        self.parts(grammar((), ones + [("pe", "many")]), grammar((), ones + [("pe", "one")]), ("",) * 4)
        self.parts(grammar((), ones + [("pe", "many")]), grammar((), ones + [("pe", "may")]), ("",) * 6)

    def test_a_place_and_an_option_of_the_same_name(self):
        one = grammar([("file", "f", "last")], MANY)
        self.kept(one, one)
        self.parts(one, grammar([("file", "f", "last")], [("files", "many")]), ("",))

    def test_empty_words_that_are_needed(self):
        two = [("aa", "one"), ("bb", "one")]
        for kind, lines in (("flag", [("-a", "", "")]), ("last", [("-a", "", "", ""), ("-aa", "", "")])):
            self.parts(grammar([("ab", "a", kind)], two), grammar((), two), *lines)


class LargeTests(KeepingTests):
    """24 OPTIONs with NAMEs of 12 SIGNs and 5 PLACEs."""

    def test_each_kind(self):
        for kind in KINDS:
            one = full(kind)
            self.kept(one, one)
            self.kept(one, grammar(one[0][::-1], FIVE))
            self.kept(grammar([(name, "", kind) for name in FULL_NAMES], FIVE), one)
            self.assertEqual(len(one[0][0][0]), 12)
            for at in (0, 23):
                name, letter, _ = one[0][at]
                other = one[0][:at] + ((name, letter, "count" if kind != "count" else "all"),) + one[0][at + 1:]
                self.parts(one, grammar(other, FIVE))
            self.parts(one, grammar(one[0][1:], FIVE))

    def test_other_answers(self):
        one, other = full("last"), full("all")
        self.assertIs(are_alike(one, other), False)
        self.assertEqual(keepers((one, other, one)), [(0, 2), (2, 0)])
        self.assertEqual(oldest((other, one, one)), 1)
        stones = touchstones(one)
        told = [meaning(one, line) for line in stones]
        self.assertNotIn(None, told)
        self.assertNotEqual([meaning(other, line) for line in stones], told)

    def test_names_that_differ_in_the_last_sign(self):
        names = ["abcdefghijk" + letter for letter in samples.LETTERS[:24]]
        one = grammar([(name, "", "last") for name in names])
        self.kept(one, one[:2] + ((False, True, True),))
        self.parts(one, grammar([(name, "", "last") for name in names[1:]]),
                   ("--abcdefghijka=",), ("--abcdefghijka", ""))
        self.parts(one, grammar([(name, "", "once") for name in names[:1]] + list(one[0][1:])),
                   ("--abcdefghijka=",) * 2, ("--abcdefghijka", "") * 2)


class TouchstoneTests(KeepingTests):
    def test_they_are_lines_that_are_accepted(self):
        for one in (grammar(), EXAMPLE, grammar((), [("file", "one")]), full("once")):
            for line in touchstones(one):
                self.assertIsNotNone(meaning(one, line))

    def test_they_tell_grammars_apart(self):
        one = grammar([("ab", "a", "flag")], MANY)
        for other in (grammar(), grammar([("ab", "a", "maybe")], MANY), grammar([("ab", "a", "flag")]),
                      one[:2] + ((True, False, True),), one[:2] + ((True, True, False),)):
            told = [meaning(one, line) == meaning(other, line) for line in touchstones(one)]
            self.assertIn(False, told)


class RowTests(KeepingTests):
    ONE = grammar([("ab", "", "flag")], [("file", "may")])
    TWO = grammar([("ab", "a", "flag")], MANY)
    THREE = grammar([("ab", "a", "flag"), ("cd", "", "last")], MANY)
    OTHER = grammar([("xy", "", "flag")], MANY)

    def test_alike(self):
        one = grammar([("ab", "a", "flag"), ("cd", "", "last")])
        for other in (one, grammar(one[0][::-1]), one[:2] + ((True, False, True),), one[:2] + ((True, True, False),)):
            self.assertIs(are_alike(one, other), True)
        self.assertIs(are_alike(self.ONE, self.TWO), False)
        self.assertIs(are_alike(self.TWO, self.ONE), False)
        self.assertIs(are_alike(one, one[:2] + ((False, True, True),)), False)

    def test_keepers(self):
        self.assertEqual(keepers(()), [])
        self.assertEqual(keepers((self.ONE,)), [])
        self.assertEqual(keepers((self.ONE, self.ONE)), [(0, 1), (1, 0)])
        self.assertEqual(keepers((self.TWO,) * 3), [(0, 1), (0, 2), (1, 0), (1, 2), (2, 0), (2, 1)])
        self.assertEqual(keepers((self.ONE, self.TWO, self.THREE)), [(0, 1), (0, 2), (1, 2)])
        self.assertEqual(keepers((self.THREE, self.OTHER, self.TWO, self.ONE)), [(2, 0), (3, 0), (3, 2)])
        self.assertEqual(keepers((self.OTHER, self.ONE)), [])

    def test_oldest(self):
        self.assertEqual(oldest((self.ONE,)), 0)
        self.assertEqual(oldest((self.ONE, self.ONE, self.ONE)), 0)
        self.assertEqual(oldest((self.ONE, self.TWO, self.THREE)), 0)
        self.assertEqual(oldest((self.OTHER, self.ONE, self.TWO)), 1)
        self.assertEqual(oldest((self.ONE, self.OTHER, self.TWO)), 2)
        self.assertEqual(oldest((self.THREE, self.ONE, self.THREE, self.TWO)), 3)
        self.assertEqual(oldest((self.OTHER, self.OTHER)), 0)
        self.assertIsNot(oldest((self.ONE,)), False)


if __name__ == "__main__":
    unittest.main()
