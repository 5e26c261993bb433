"""Promises [18] to [20]: which WISHes fit, alone and together, and which NAMEs are left."""

import unittest
from itertools import combinations, product
from random import Random

import pool
import samples
from keptlines.errors import BadGrammar, BadQuestion
from keptlines.grammars import is_grammar, tellings, with_options
from keptlines.keeping import keeps, parted
from keptlines.reading import meaning
from keptlines.wishes import choice, cover, fits, is_choice, is_cover, least_name, roots, why_not
from keptlines.words import size
from samples import EXAMPLE, ON, grammar

MANY = (("file", "many"),)
LETTERS = "abcdefghijklmnopqrstuvwxyz"
LONG_NAMES = [letter * 6 + "-" + "abcde" for letter in samples.LETTERS[:24]]
FULL = grammar([(name, name[0], "last") for name in LONG_NAMES], samples.many_places(5))


def wish(name, letter="", kind="flag"):
    return (name, letter, kind)


def numbers_chosen(wishes):
    """All ascending tuples of numbers of WISHes, the longest ones first."""
    for many in range(len(wishes), -1, -1):
        yield from combinations(range(len(wishes)), many)


class WishTests(unittest.TestCase):
    def refuses(self, call, *arguments):
        with self.assertRaises(BadQuestion, msg=samples.show(arguments)) as caught:
            call(*arguments)
        self.assertIs(caught.exception.__class__, BadQuestion)

    def best(self, one, wishes, many):
        """A GREATEST choice and a COVER have as many as this."""
        chosen, covered = choice(one, wishes), cover(one, wishes)
        self.assertEqual(len(chosen), many, chosen)
        self.assertEqual(len(covered[0]) + len(covered[1]), many, covered)
        self.assertIs(is_choice(one, wishes, chosen), True)
        self.assertIs(is_cover(one, wishes, covered), True)
        for part in (chosen, *covered):
            self.assertIsInstance(part, tuple)
            self.assertEqual(part, tuple(sorted(set(part))))
        self.assertTrue(keeps(one, with_options(one, tuple(wishes[number] for number in chosen))))


class FitsTests(WishTests):
    def check(self, one, right, *wishes):
        self.assertIs(fits(one, wishes), right, wishes)
        more = (one[0] + wishes, *one[1:])
        self.assertIs(is_grammar(more) and keeps(one, more), right)

    def test_none(self):
        for one in (grammar(), EXAMPLE, FULL):
            self.assertIs(fits(one, ()), True)
            self.best(one, (), 0)

    def test_one_alone(self):
        for kind in pool.KINDS:
            self.check(EXAMPLE, True, wish("red", "r", kind))
            self.check(EXAMPLE, True, wish("red", "", kind))
            self.check(EXAMPLE, True, wish("co", "", kind))
            self.check(EXAMPLE, False, wish("color", "x", kind))
            self.check(EXAMPLE, False, wish("copy", "", kind))
            self.check(EXAMPLE, False, wish("red", "c", kind))
            self.check(EXAMPLE, False, wish("red", "v", kind))
            self.check(EXAMPLE, False, wish("colx", "", kind))
            self.check(EXAMPLE, False, wish("col", "", kind))
            self.check(EXAMPLE, False, wish("colors", "", kind))
            self.check(EXAMPLE, False, wish("vx", "x", kind))
            self.check(EXAMPLE, False, wish("red", "5", kind))

    def test_a_figure(self):
        for mode, places in product(samples.ALL_MODES, ((), [("file", "may")], MANY)):
            one = grammar([("ab", "a", "flag")], places, mode)
            self.check(one, not (mode[2] and places), wish("red", "0"))
            other = grammar([("ab", "7", "flag")], places, mode)
            self.check(other, True, wish("red", "0"))

    def test_shortenings(self):
        one = grammar([("abcd", "", "flag"), ("ab", "", "flag")])
        for name, right in (("aa", True), ("abc", False), ("abce", False), ("abcde", False), ("abd", True),
                            ("abb", True), ("ba", True), ("a-b", True), ("ab-d", True)):
            self.check(one, right, wish(name))
            self.check(one[:2] + ((False, True, True),), True, wish(name))

    def test_several(self):
        for wishes, right in (
            ([wish("aa"), wish("ab")], True), ([wish("aa"), wish("aa")], False), ([wish("aa"), wish("aa", "a")], False),
            ([wish("aa", "a"), wish("bb", "a")], False), ([wish("aa", "a"), wish("bb", "b"), wish("dd", "a")], False),
            ([wish("aa"), wish("bb"), wish("dd", "x")], True), ([wish("aa", "a"), wish("aab", "b")], True),
            ([wish("aa"), wish("vv")], False), ([wish("aa", "a"), wish("bb", "c")], False),
        ):
            self.check(EXAMPLE, right, *wishes)
            self.check(EXAMPLE, right, *wishes[::-1])


class FactTests(WishTests):
    """The Facts of [18] and [19], tried with all choices of small rows of WISHes."""

    GRAMMARS = (
        grammar(), EXAMPLE, grammar([("ab", "a", "flag")], MANY),
        grammar([("ab", "a", "flag"), ("abcd", "", "last")], MANY, (True, True, False)),
        grammar([("aa", "5", "flag"), ("ab", "b", "flag")], MANY),
    )
    ROWS = (
        (wish("aa", "a"), wish("aa", "b"), wish("bb", "a"), wish("bb", "b"), wish("cc", "a"), wish("cc", "")),
        (wish("ab", "x"), wish("abc", "x"), wish("ba", "0"), wish("ba", "x"), wish("b-a", "y"), wish("b-a")),
        (wish("aa", "", "all"), wish("aa", "", "last"), wish("dd", "d"), wish("dd", "d", "count"), wish("ee", "d")),
        (wish("xa", "p"), wish("xb", "p"), wish("xc", "p"), wish("xc", "q"), wish("xd", "q"), wish("xd", "r"),
         wish("xe", "r"), wish("xe", "p")),
        (wish("xa", "q"), wish("xa", "p"), wish("xb", "p"), wish("xc", "r"), wish("xc", "s"), wish("xd", "s")),
    )

    def test_wishes_that_fit_keep_the_grammar_and_a_cover_is_as_many_as_a_choice(self):
        for one, row in product(self.GRAMMARS, self.ROWS):
            most = 0
            for numbers in numbers_chosen(row):
                wishes = tuple(row[number] for number in numbers)
                more = (one[0] + wishes, *one[1:])
                right = is_grammar(more) and keeps(one, more)
                self.assertIs(fits(one, wishes), right, (one, wishes))
                self.assertIs(is_choice(one, row, numbers), right, (one, row, numbers))
                most = max(most, len(numbers) if right else 0)
            self.best(one, row, most)

    def test_no_cover_has_fewer(self):
        for one, row in product(self.GRAMMARS, self.ROWS):
            names = sorted({name for name, _, _ in row})
            letters = sorted({letter for _, letter, _ in row} - {""})
            fewest = len(row)
            for held in product((0, 1), repeat=len(names) + len(letters)):
                thing = (tuple(name for name, on in zip(names, held) if on),
                         tuple(letter for letter, on in zip(letters, held[len(names):]) if on))
                alone = [each for each in row if fits(one, (each,))]
                right = all(name in thing[0] or letter in thing[1] for name, letter, _ in alone)
                self.assertIs(is_cover(one, row, thing), right, (one, row, thing))
                if right:
                    fewest = min(fewest, sum(held))
            self.best(one, row, fewest)

    def test_rows_by_chance(self):
        chance = Random(5)
        for many in (4, 6, 8, 8, 8) * 40:
            row = tuple(wish("x" + chance.choice("abcdef"), chance.choice(["", *"abcdefabcdef"])) for _ in range(many))
            self.best(grammar(), row, next(len(numbers) for numbers in numbers_chosen(row) if self.unlike(row, numbers)))

    def unlike(self, row, numbers):
        names = [row[number][0] for number in numbers]
        letters = [row[number][1] for number in numbers if row[number][1]]
        return len(set(names)) == len(names) and len(set(letters)) == len(letters)

    def test_others_must_give_way(self):
        row = [wish("xa", "a")]
        for at in range(1, 8):
            row += [wish("x" + LETTERS[at], LETTERS[at - 1]), wish("x" + LETTERS[at], LETTERS[at])]
        for wishes in (row, row[::-1], row[1::2] + row[::2], row[::2] + row[1::2]):
            self.best(grammar(), tuple(wishes), 8)
        self.best(grammar(), (wish("xa", "p"), wish("xa", "q"), wish("xb", "p"), wish("xc", "q"), wish("xc", "r")), 3)

    def test_long_chains(self):
        pairs = [("x" + LETTERS[at // 2], LETTERS[(at + 1) // 2]) for at in range(16)]
        for row in (pairs, pairs[::-1], pairs[::2] + pairs[1::2], pairs[1::2] + pairs[::2]):
            self.best(grammar(), tuple(wish(*pair) for pair in row), 8)
        star = tuple(wish("x" + letter, "a") for letter in LETTERS[:16])
        self.best(grammar(), star, 1)
        self.assertEqual(cover(grammar(), star), ((), ("a",)))
        self.best(grammar(), tuple(wish("xx", letter) for letter in LETTERS[:16]), 1)
        self.best(grammar(), tuple(wish("x" + letter) for letter in LETTERS[:16]), 16)
        square = tuple(wish("x" + one, two) for one, two in product("abcd", repeat=2))
        self.best(grammar(), square, 4)
        self.best(grammar(), (wish("xx", "a"),) * 16, 1)
        self.best(grammar(), (wish("xx"),) * 16, 1)

    def test_wishes_without_a_letter(self):
        row = (wish("aa", "a"), wish("aa"), wish("bb", "a"))
        self.best(grammar(), row, 2)
        self.assertEqual(choice(grammar(), row), (1, 2))
        self.best(grammar(), (wish("aa", "a"), wish("bb", "a"), wish("aa")), 2)
        self.best(grammar(), (wish("aa"), wish("bb"), wish("aa", "a"), wish("bb", "a")), 2)

    def test_only_those_that_fit_alone_are_chosen(self):
        none = (wish("color"), wish("aa", "v"), wish("vv"), wish("bb", "0"))
        self.assertEqual(choice(EXAMPLE, none + (wish("dd"),)), (4,))
        self.assertEqual(cover(EXAMPLE, none), ((), ()))


class NumbersTests(WishTests):
    """16 and 17 WISHes, 24 and 25 OPTIONs, and things that are no WISHes."""

    def each(self, one, wishes, right):
        calls = ((fits,), (choice,), (cover,), (is_choice, ()), (is_cover, ((), ())), (is_choice, None),
                 (is_cover, None))
        for call, *more in calls:
            if right:
                call(one, wishes, *more)
            else:
                self.refuses(call, one, wishes, *more)

    def test_16_wishes_and_17(self):
        row = tuple(wish("x" + letter, letter) for letter in LETTERS)
        for many in (0, 1, 15, 16):
            self.each(grammar(), row[:many], True)
            self.best(grammar(), row[:many], many)
        for many in (17, 18, 24, 26):
            self.each(grammar(), row[:many], False)
        self.each(grammar(), (wish("aa"),) * 16, True)
        self.each(grammar(), (wish("aa"),) * 17, False)

    def test_24_options_and_25(self):
        row = tuple(wish("x" + letter, "") for letter in LETTERS)
        for many in (8, 9, 20, 23, 24):
            one = grammar(samples.many_options(many))
            self.each(one, row[:24 - many], True)
            self.each(one, row[:25 - many], False)
            self.best(one, row[:24 - many], 24 - many)
            self.each(one, (one[0][0],) * (24 - many), True)
            self.each(one, (one[0][0],) * (25 - many), False)

    def test_the_largest(self):
        eight = (FULL[0][:8], *FULL[1:])
        self.best(eight, FULL[0][8:], 16)
        self.each(FULL, (), True)

    def test_things_that_are_no_wishes(self):
        for thing in samples.odd_things() + samples.odd_tuples() + ["", "ab", ("ab", "a", "flag"), [wish("ab")]]:
            self.each(EXAMPLE, thing, False)
        odd = samples.odd_things() + samples.odd_tuples()
        for thing in odd + ["abc", (), ("ab",), ["ab", "", "flag"], ("a", "", "flag"), ("ab", "A", "flag"),
                            ("ab", "", "one")]:
            self.each(EXAMPLE, (thing,), False)
            self.each(EXAMPLE, (wish("ab"), thing), False)

    def test_the_grammar_comes_first(self):
        bad = ((), (None,), ON)
        for call, *more in ((fits, None), (choice, None), (cover, None), (is_choice, None, None),
                            (is_cover, None, None), (why_not, None), (roots,), (least_name, None)):
            with self.assertRaises(BadGrammar) as caught:
                call(bad, *more)
            self.assertEqual(caught.exception.place, ("places", 0))


class IsChoiceTests(WishTests):
    ROW = (wish("aa", "a"), wish("bb", "a"), wish("dd", "d"), wish("aa"), wish("vv"))

    def test_choices_of_any_number(self):
        for thing in ((), (0,), (1,), (2,), (3,), (0, 2), (1, 2), (1, 3), (1, 2, 3)):
            self.assertIs(is_choice(EXAMPLE, self.ROW, thing), True, thing)
        for thing in ((4,), (0, 1), (0, 3), (0, 1, 2), (2, 4), (2, 1), (3, 2, 1), (2, 2), (1, 1), (-1,), (5,), (-5,),
                      (0, 1, 2, 3, 4), (10 ** 60,), (2, 10 ** 60), (0, 0, 0, 0, 0, 0)):
            self.assertIs(is_choice(EXAMPLE, self.ROW, thing), False, thing)

    def test_numbers_below_0(self):
        for row in ((wish("aa"),), (wish("aa"), wish("bb"))):
            for thing in ((-1,), (-2,), (-1, 0), (-2, -1)):
                self.assertIs(is_choice(EXAMPLE, row, thing), False, thing)

    def test_odd_things(self):
        for thing in samples.odd_things() + ["", "ab", [], [0], {0: 1}]:
            self.assertIs(is_choice(EXAMPLE, self.ROW, thing), False, samples.show(thing))
        for thing in samples.odd_tuples() + [(True,), (False,), (False, 2), (0, True), ("0",), ((0,),), (0, None),
                                             (None, 0)]:
            right = thing == (1, 2) if all(isinstance(item, int) for item in thing) else False
            self.assertIs(is_choice(EXAMPLE, self.ROW, thing), right, samples.show(thing))
        for thing in samples.odd_things():
            right = isinstance(thing, int) and not isinstance(thing, bool) and thing in (0, 1, 2)
            self.assertIs(is_choice(EXAMPLE, self.ROW, (thing,)), right, samples.show(thing))


class IsCoverTests(WishTests):
    ROW = (wish("aa", "a"), wish("bb", "a"), wish("dd", "d"), wish("ee"), wish("vv"))

    def test_covers_of_any_number(self):
        for thing in ((("ee",), ("a", "d")), (("dd", "ee"), ("a",)), (("aa", "bb", "dd", "ee"), ()),
                      (("aa", "ee", "zz-z"), ("a", "d")), (("ee",), ("0", "a", "d", "z")),
                      (("dd", "ee", "vv"), ("a", "c"))):
            self.assertIs(is_cover(EXAMPLE, self.ROW, thing), True, thing)
        for thing in (((), ()), ((), ("a", "d")), (("ee",), ("a",)), (("ee",), ("d",)), (("aa", "ee"), ("d",)),
                      (("ee",), ("d", "a")), (("ee", "dd"), ("a",)), (("ee", "ee"), ("a", "d")),
                      (("ee",), ("a", "a", "d")), ((), ("", "a", "d")), (("ee",), ("", "a", "d")),
                      (("", "ee"), ("a", "d")), (("e", "ee"), ("a", "d")),
                      (("ee",), ("a", "d", "zz")), (("ee",), ("a", "d"), ()), (("ee",),)):
            self.assertIs(is_cover(EXAMPLE, self.ROW, thing), False, thing)

    def test_of_no_wishes(self):
        for thing, right in ((((), ()), True), ((("aa",), ()), True), (((), ("a",)), True), (((), ("",)), False),
                             ((), False)):
            self.assertIs(is_cover(EXAMPLE, (), thing), right)
            self.assertIs(is_cover(EXAMPLE, (wish("vv"), wish("color")), thing), right)

    def test_many_names(self):
        names = tuple(sorted(one + two for one, two in product(LETTERS, repeat=2)))
        self.assertIs(is_cover(EXAMPLE, self.ROW, (names, ())), True)
        self.assertIs(is_cover(EXAMPLE, self.ROW, (names, tuple(sorted(samples.LETTERS)))), True)
        self.assertIs(is_cover(EXAMPLE, self.ROW, (names + ("aa",), ())), False)

    def test_odd_things(self):
        odd = samples.odd_things() + ["", "ab", ["ee"]]
        for thing in odd + samples.odd_tuples():
            self.assertIs(is_cover(EXAMPLE, self.ROW, thing), False, samples.show(thing))
        for thing in odd:
            for pair in ((thing, ("a", "d")), (("ee",), thing), (thing, thing), [("ee",), ("a", "d")],
                         (("ee", thing), ("a", "d")), (("ee",), ("a", "d", thing)), ((thing, "ee"), ("a", "d"))):
                right = isinstance(thing, str) and pair == (("ab", "ee"), ("a", "d"))
                self.assertIs(is_cover(EXAMPLE, self.ROW, pair), right, samples.show(pair))


class WhyNotTests(WishTests):
    def test_what_fits(self):
        for each in (wish("red"), wish("red", "r", "all"), wish("co", "", "maybe")):
            self.assertIsNone(why_not(EXAMPLE, each))

    def test_what_is_taken(self):
        for each in (wish("color"), wish("color", "x"), wish("copy", "", "all"), wish("red", "c"), wish("vx", "v"),
                     wish("color", "5")):
            self.assertEqual(why_not(EXAMPLE, each), "taken")

    def test_least_lines(self):
        for one, each, line in (
            (EXAMPLE, wish("vx"), ("--v",)), (EXAMPLE, wish("colx"), ("--col=",)), (EXAMPLE, wish("cop"), ("--cop",)),
            (EXAMPLE, wish("red", "5"), ("-0",)), (EXAMPLE, wish("vx", "5"), ("-0",)),
            (grammar([("ab", "", "flag")], [("to", "one")]), wish("aa"), ("--a", "")),
            (grammar([("ab", "", "flag")], samples.many_places(5)), wish("aa", "5"), ("-0", "", "", "", "")),
            (grammar([("ab", "", "flag")]), wish("aa", "5"), ("--a",)),
        ):
            told = why_not(one, each)
            more = with_options(one, (each,))
            self.assertEqual(size(told), size(line))
            self.assertEqual(size(told), size(parted(one, more)))
            self.assertIsNotNone(meaning(one, told))
            self.assertNotEqual(meaning(one, told), meaning(more, told))

    def test_it_says_as_fits_says(self):
        names = ["aa", "ab", "abc", "abd", "abcd", "abcde", "ba", "a-b"]
        for options in ([("ab", "a", "flag")], [("abcd", "", "last"), ("ab", "b", "flag")],
                        [("abc", "", "all"), ("ba", "0", "once")]):
            for places, modes in product(((), MANY), samples.ALL_MODES):
                one = grammar(options, places, modes)
                for name, letter in product(names, ("", "a", "b", "0", "9")):
                    each = wish(name, letter)
                    told = why_not(one, each)
                    taken = not is_grammar((one[0] + (each,), *one[1:]))
                    self.assertIs(told is None, fits(one, (each,)))
                    self.assertIs(told == "taken", taken)

    def test_24_options(self):
        for each in (wish("red"), wish(LONG_NAMES[0]), wish("red", "a")):
            self.refuses(why_not, FULL, each)
        less = (FULL[0][:23], *FULL[1:])
        self.assertIsNone(why_not(less, wish("yy", "y")))
        self.assertEqual(why_not(less, wish(LONG_NAMES[0])), "taken")
        self.assertIsInstance(why_not(less, wish("aa")), tuple)

    def test_things_that_are_no_wish(self):
        odd = samples.odd_things() + samples.odd_tuples()
        for thing in odd + ["", "abc", (), (wish("ab"),), ("ab", "", "one"), ("a", "", "flag"), ["ab", "", "flag"]]:
            self.refuses(why_not, EXAMPLE, thing)
            self.refuses(why_not, FULL, thing)


class RootsTests(WishTests):
    def test_roots(self):
        self.assertEqual(roots(EXAMPLE), ("col", "cop", "v"))
        self.assertEqual(roots(grammar()), ())
        self.assertEqual(roots((EXAMPLE[0], EXAMPLE[1], (False, True, True))), ())
        for names, wanted in ((["aa", "ab"], ()), (["ab", "abcd"], ("abc",)), (["ab", "abc"], ()), (["abc"], ("a",)),
                              (["ba", "abc", "abd-e"], ("abd", "b")), (["zz", "ya", "x-x"], ("x", "y", "z"))):
            self.assertEqual(roots(grammar([wish(name) for name in names])), wanted)
        self.assertEqual(roots(FULL), tuple(sorted(name[0] for name in LONG_NAMES)))

    def test_a_name_fits_exactly_if_it_begins_with_no_root(self):
        names = ["a" + "".join(rest) for many in (1, 2, 3) for rest in product("ab", repeat=many)]
        for options in (["abb"], ["ab", "abab"], ["aab", "aba"], ["aa", "ab"], ["aaaa", "aa", "abbb", "abb"], []):
            for short in (True, False):
                one = grammar([wish(name) for name in options], (), (short, True, True))
                found = roots(one)
                shortenings = [telling for telling, name in tellings(one).items() if telling != name]
                self.assertEqual(set(found), {a for a in shortenings
                                              if not any(a != b and a.startswith(b) for b in shortenings)})
                for name in names:
                    right = name not in options and not name.startswith(tuple(found))
                    self.assertIs(fits(one, (wish(name),)), right, (options, name))


class LeastNameTests(WishTests):
    def check(self, one, start, many):
        """A NAME of so many SIGNs is told, or None."""
        name = least_name(one, start)
        if many is None:
            self.assertIsNone(name)
            return
        self.assertEqual(len(name), many, name)
        self.assertTrue(name.startswith(start), name)
        if len(one[0]) < 24:
            self.assertIs(fits(one, (wish(name),)), True)
        self.assertFalse(name.startswith(roots(one)) if roots(one) else False)
        self.assertNotIn(name, [option[0] for option in one[0]])

    def test_the_example(self):
        for start, many in (("", 2), ("c", 2), ("co", 2), ("col", None), ("colo", None), ("color", None), ("v", None),
                            ("verbose", None), ("x", 2), ("xy", 2), ("x-", 3), ("co-", 4), ("c-", 3), ("x--", 4)):
            self.check(EXAMPLE, start, many)

    def test_long_starts(self):
        for start, many in (("abcdefghijkl", 12), ("abcdefghijk", 11), ("abcdefghij-", 12), ("abcdefghijk-", None),
                            ("a----------", 12), ("a-----------", None)):
            self.check(grammar(), start, many)
            self.check(EXAMPLE, start, many)
        for name in ("abcdefghijkl", "abcdefghijk"):
            one = grammar([wish(name)], (), (False, True, True))
            self.check(one, "abcdefghijkl", None if name == "abcdefghijkl" else 12)
            self.check(one, "abcdefghijk", 11 if name == "abcdefghijkl" else 12)

    def test_all_short_names_are_told_by_the_definition(self):
        names = [one + two for one, two in product(LETTERS, repeat=2)]
        for options in (["ab", "ac"], ["aa"], ["aaa", "aab"], ["ab" + letter for letter in LETTERS[:24]]):
            for short, start in product((True, False), ("", "a", "aa", "ab", "ac", "b")):
                one = grammar([wish(name) for name in options], (), (short, True, True))
                free = [name for name in names if name.startswith(start) and name not in options
                        and not name.startswith(roots(one) or ("-",))]
                told = least_name(one, start)
                if free:
                    self.assertIn(told, free)
                elif told is not None:
                    self.assertGreater(len(told), 2)
                    self.check(one, start, len(told))

    def test_24_options(self):
        self.check(FULL, "", 2)
        for letter in LETTERS:
            self.check(FULL, letter, None if letter in [name[0] for name in LONG_NAMES] else 2)
        taken = grammar([wish("a" + letter) for letter in LETTERS[:24]])
        self.check(taken, "a", 2)
        self.assertIn(least_name(taken, "a"), ("ay", "az"))
        longer = grammar([wish("abcdefghijk" + letter) for letter in LETTERS[:24]])
        self.check(longer, "abcdefghijk", 11)
        self.check(longer, "abcdefghijka", None)
        self.check(longer, "abcdefghijkz", 12)
        self.check(longer, "", 2)
        more = grammar([wish("abcdefghijk" + letter) for letter in LETTERS[:23]] + [wish("abcdefghijk")])
        self.check(more, "abcdefghijk", 12)
        self.assertIn(least_name(more, "abcdefghijk"), ["abcdefghijk" + letter for letter in "xyz"])

    def test_starts_that_are_none(self):
        for thing in samples.odd_things() + samples.odd_tuples() + [
                "-", "-a", "A", "a1", "5", "a=", "a.", "a b", " ", "\n", "a" * 13, "abcdefghijklm", "-" * 12,
                ("a",), ["a"]]:
            self.refuses(least_name, EXAMPLE, thing)
            self.refuses(least_name, FULL, thing)


if __name__ == "__main__":
    unittest.main()
