"""Promises [21] to [25]: FORMs, their HOLEs and FILLINGs, SHAPEs, DANGERs, HARMs and refusals."""

import unittest
from itertools import product

import samples
from keptlines.errors import BadForm, BadGrammar, BadQuestion
from keptlines.forms import (
    danger, filled, form_lasts, form_size, harms, holes, is_sure, mended, mended_lasting, need_form, refusal, shape,
)
from keptlines.reading import meaning_by
from keptlines.rules import Rules
from pool import KINDS
from samples import EXAMPLE, grammar

MANY = (("file", "many"),)
X, Y = ("", "x"), ("", "y")
BY_GRAMMAR = (shape, is_sure, form_lasts, danger, harms, refusal, mended, mended_lasting)


class Refusals(unittest.TestCase):
    def refuses(self, error, place, call, *arguments):
        with self.assertRaises(error, msg=samples.show(arguments)) as caught:
            call(*arguments)
        self.assertIs(caught.exception.__class__, error)
        if place is not None:
            self.assertEqual(caught.exception.place, place)


class FormTests(Refusals):
    GOOD = (
        (), ("",), ("a", "--", "-5"), (X,), (("x" * 80, "abcdefgh"),), (("--a=", "x"), ("--b=", "x")), ("a",) * 20,
        (X,) * 20, (("-", "a"), ("", "z"), ".="),
    )
    BAD = (
        (("a",) * 21, ()), ((X,) * 21, ()), ((None,) * 21, ()), (("x" * 81,), (0,)), (("a", ("x" * 81, "x")), (1,)),
        ((("", ""),), (0,)), ((("", "abcdefghi"),), (0,)), ((("", "X"),), (0,)), ((("", "a1"),), (0,)),
        ((("", "a-b"),), (0,)), ((("A", "x"),), (0,)), (("A",), (0,)), (("a b",), (0,)), (("a", "{x}"), (1,)),
        ((["", "x"],), (0,)), ((("", "x", "y"),), (0,)), ((("x",),), (0,)), (((),), (0,)), ((("", None),), (0,)),
        (((None, "x"),), (0,)), (((X, "x"),), (0,)), ((("", X),), (0,)), (("", "", 1, "A"), (2,)),
        ((True,), (0,)), ((b"a",), (0,)), ((("", b"x"),), (0,)), ((("", True),), (0,)), ((("\n", "x"),), (0,)),
        ((("", "x\n"),), (0,)), ("", ()), ("a", ()), ([], ()), (["a"], ()), ({}, ()), ({"a": "x"}, ()), (None, ()),
        ((samples.Stubborn(),), (0,)), ((samples.EqualsAll(),), (0,)), ((("", samples.EqualsAll()),), (0,)),
        (((samples.Stubborn(), "x"),), (0,)), ((samples.deep(tuple),), (0,)), (("a", samples.deep(list)), (1,)),
    )

    def test_what_is_a_form(self):
        for form in self.GOOD:
            self.assertIs(need_form(form), form)

    def test_what_is_none(self):
        for form, place in self.BAD:
            self.refuses(BadForm, place, need_form, form)
        for thing in samples.odd_things():
            self.refuses(BadForm, (), need_form, thing)
            self.refuses(BadForm, (1,), need_form, ("a", thing))
            self.refuses(BadForm, (0,), need_form, ((thing, "x"), thing))
            self.refuses(BadForm, (0,), need_form, (("a", thing),))
        for thing in samples.odd_tuples():
            self.refuses(BadForm, (1,), need_form, ("a", thing))

    def test_each_function_refuses_what_is_none(self):
        for call in (holes, form_size):
            for form, place in self.BAD:
                self.refuses(BadForm, place, call, form)
        for form, place in self.BAD:
            for filling in ((), None, (("x", "a"),)):
                self.refuses(BadForm, place, filled, form, filling)
        for call in BY_GRAMMAR:
            for form, place in self.BAD:
                self.refuses(BadForm, place, call, EXAMPLE, form)
                self.refuses(BadGrammar, ("modes",), call, ((), (), None), form)

    def test_holes_and_sizes(self):
        for form, found, size in (
            ((), (), 0), (("", ""), (), 2), ((X,), ("x",), 1), ((Y, X, Y), ("x", "y"), 3), (("ab", ("-c", "z")), ("z",), 6),
            ((("", "b"), ("", "ab"), ("", "aa"), ("", "a")), ("a", "aa", "ab", "b"), 4),
            ((("x" * 80, "abcdefgh"),) * 20, ("abcdefgh",), 1620),
        ):
            self.assertEqual(holes(form), found)
            self.assertEqual(form_size(form), size)
            self.assertIs(form_size(form).__class__, int)


class FilledTests(Refusals):
    def test_fillings(self):
        self.assertEqual(filled((), ()), ())
        self.assertEqual(filled(("a", "--b="), ()), ("a", "--b="))
        self.assertEqual(filled((X, ("--b=", "y"), "a", ("c", "x")), (("x", "--"), ("y", ""))), ("--", "--b=", "a", "c--"))
        self.assertEqual(filled((("x" * 80, "h"),), (("h", "y" * 80),)), ("x" * 80 + "y" * 80,))

    def test_what_is_no_filling(self):
        form = (X, ("a", "y"), X)
        right = (("x", ""), ("y", "-=."))
        self.assertEqual(filled(form, right), ("", "a-=.", ""))
        for wrong in (
            (), right[:1], right[::-1], right + (("z", ""),), right + right[1:], (("x", ""), ("z", "")), list(right),
            dict(right), (["x", ""], right[1]), (("x", "", ""), right[1]), (("x",), right[1]), (("x", "A"), right[1]),
            (("x", "a" * 81), right[1]), (("x", None), right[1]), ((None, ""), right[1]), ("x", "y"), ("xa", "yb"),
            (right[0], ("y", ["a"])), (right[0], ("y", True)), (("", "x"), ("", "y")), None, "", 2, *samples.odd_tuples(),
        ):
            self.refuses(BadQuestion, None, filled, form, wrong)
        for thing in samples.odd_things():
            for wrong in (thing, (thing, thing), (right[0], thing), ((thing, ""), right[1]), (right[0], ("y", thing))):
                self.refuses(BadQuestion, None, filled, form, wrong)
        for wrong in ((("x", ""),), [], None, ((),)):
            self.refuses(BadQuestion, None, filled, ("a",), wrong)


class ShapeTests(Refusals):
    def shapes(self, one, form, held, words=()):
        filled_places = (("file", tuple(words)),) if words else ()
        self.assertEqual(shape(one, form), (tuple(held), filled_places))

    def test_values_and_place_words(self):
        form = (("--col=re", "x"), "-v", "a", ("-", "y"), ("b", "x"))
        self.assertIsNone(shape(EXAMPLE, form))
        self.shapes(EXAMPLE, form[:2] + ("--",) + form[2:], [("color", ("re", "x")), ("verbose", 1)],
                    ["a", ("-", "y"), ("b", "x")])
        self.shapes(EXAMPLE, (X, "-c", ("-", "x")), [("color", ("-", "x"))], [X])
        self.shapes(EXAMPLE, (("-vvc", "x"), X), [("color", X), ("verbose", 2)], [X])
        self.shapes(EXAMPLE, (("-vc-", "x"),), [("color", ("-", "x")), ("verbose", 1)])
        self.shapes(EXAMPLE, (), [])

    def test_all_values(self):
        one = grammar([("ab", "a", "all")], MANY)
        self.shapes(one, (("-a", "x"), "--ab=", "-a", X, ("--a=b", "y")), [("ab", (X, "", X, ("b", "y")))])

    def test_holes_of_which_letters_would_be_read(self):
        two = grammar([(sign * 2, sign, "flag") for sign in "abcdefghijklmnopqrstuvwx"], MANY)
        for one in (EXAMPLE, two):
            for text in ("-", "-v", "--", "--c", "--color", "--copy", "--verbose=", "-5", "-z", "--="):
                self.assertIsNone(shape(one, ((text, "x"),)), text)

    def test_what_is_given_more_than_once(self):
        for kind in KINDS:
            one = grammar([("ab", "a", kind)], MANY)
            for words in (("--ab", "x"), ("--ab=x",), (("--ab=", "x"),), ("-a", X), (("-a", "x"),), ("-a", "x")):
                single, twice = shape(one, words), shape(one, words + words)
                self.assertEqual(twice is not None, single is not None and kind in ("flag", "count", "all"), (kind, words))
        maybe = grammar([("ab", "a", "maybe")])
        self.assertIsNone(shape(maybe, ("-a", "--ab=")))
        self.assertIsNone(shape(maybe, ("-a", ("-a", "x"))))
        self.assertEqual(shape(maybe, (("-a", "x"),)), ((("ab", X),), ()))

    def test_how_many_place_words(self):
        for places, counts in (((), (0,)), ((("pa", "one"),), (1,)), ((("pa", "one"), ("pb", "may")), (1, 2))):
            one = grammar((), places)
            for count in range(4):
                self.assertIs(shape(one, (X,) * count) is not None, count in counts)

    def test_twenty_pieces(self):
        form = ("-v",) * 10 + (("--c=", "x"),) + (X,) * 9
        self.shapes(EXAMPLE[:2] + (samples.ON,), form[:10] + (("--col=", "x"),) + form[11:],
                    [("color", X), ("verbose", 10)], [X] * 9)
        self.refuses(BadForm, (), shape, EXAMPLE, form + ("a",))


class SureTests(Refusals):
    def check(self, one, form, sure, lasting, least):
        self.assertIsNotNone(shape(one, form), form)
        self.assertIs(is_sure(one, form), sure, form)
        self.assertIs(form_lasts(one, form), lasting, form)
        told = danger(one, form)
        if sure:
            self.assertIsNone(told)
            self.assertIsNone(least)
        else:
            self.assertEqual(sum(len(word) for _, word in told), least)
            self.assertEqual(tuple(hole for hole, _ in told), holes(form))
            self.assertNotEqual(filled(form, told), None)

    def test_place_words_ahead_of_and_behind_what_closes_the_line(self):
        for modes in samples.ALL_MODES:
            one = grammar([("ab", "a", "flag")], MANY, modes)
            self.check(one, (X,), False, False, 2)
            self.check(one, ("--", X), True, True, None)
            self.check(one, ("--", "a", X, X), True, True, None)
            self.check(one, (("a", "x"),), True, True, None)
            self.check(one, (("=", "x"), ("", "y")), not modes[1], not modes[1], 2 if modes[1] else None)
            self.check(one, ("a", X), not modes[1], not modes[1], 2 if modes[1] else None)
            self.check(one, ("-a", X), False, False, 2)
            self.check(one, (X, "--", Y), False, False, 2)

    def test_letters_ahead_of_holes(self):
        for kind in ("once", "last", "all", "maybe"):
            one = grammar([("abc", "a", kind), ("bb", "b", "flag")], MANY)
            for form in ((("-a", "x"),), (("-ba", "x"),), (("-a", "x"), "y"), ("-b", ("-a", "x"), ("c", "x"))):
                self.check(one, form, False, False, 0)
            for form in ((("-aa", "x"),), (("--abc=", "x"),), (("-ba-", "x"),), (("--abc=a", "x"),)):
                self.check(one, form, True, True, None)
            if kind != "maybe":
                for form in (("-a", X), ("--abc", X), ("--abc", ("-a", "x")), ("-a", ("--", "x"))):
                    self.check(one, form, True, True, None)
            self.check(one, (("--ab=", "x"),), True, False, None)

    def test_the_least_danger(self):
        self.assertEqual(danger(EXAMPLE, (X,)), (("x", danger(EXAMPLE, (X,))[0][1]),))
        self.check(EXAMPLE, (("-c", "x"), Y), False, False, 0)
        self.check(EXAMPLE, (("-cr", "x"), Y), False, False, 2)
        self.check(EXAMPLE, (X, Y, X), False, False, 2)
        self.check(EXAMPLE, tuple(("", letter) for letter in "abcdefghijklmnopqrst"), False, False, 2)

    def test_what_lasts(self):
        one = grammar([("abc", "a", "last")], MANY)
        for form, lasting in (
            (("--abc", "--ab"), True), (("--ab", "--ab"), False), (("-5",), False), (("--", "-5"), True),
            (("a", "-5"), False), (("--", ("-5", "x")), True), (("--abc", "-5"), True), (("-a-5",), True), ((), True),
            (("--ab=", "-5"), False), (("--abc=", "5"), True),
        ):
            self.check(one, form, True, lasting, None)
        self.check(grammar([("abc", "a", "last")], MANY, (True, False, True)), ("a", "-5"), True, True, None)

    def test_forms_without_a_shape(self):
        for form in (("-x",), ("--col",), (("-v", "x"),), ("-ca", "-cb"), (("--c", "x"),)):
            self.assertIs(is_sure(EXAMPLE, form), False)
            self.assertIs(form_lasts(EXAMPLE, form), False)
            for call in (danger, harms, refusal, mended, mended_lasting):
                self.refuses(BadQuestion, None, call, EXAMPLE, form)


class HarmTests(Refusals):
    def harmed(self, one, form, names, refused=True):
        told = harms(one, form)
        self.assertEqual(list(told), list(names), told)
        for name, filling in told.items():
            self.assertIn(name, dict(meaning_by(Rules(one), filled(form, filling))[0]))
        found = refusal(one, form)
        self.assertIs(found is not None, refused, found)
        if refused:
            self.assertIsNone(meaning_by(Rules(one), filled(form, found)))

    def test_place_words(self):
        self.harmed(EXAMPLE, (X,), ["color", "copy", "verbose"])
        self.harmed(EXAMPLE, ("-v", X), ["color", "copy"])
        self.harmed(EXAMPLE, ("--", X), [], False)
        self.harmed(EXAMPLE, ("--", "-v", X), [], False)
        self.harmed(EXAMPLE, (), [], False)

    def test_places_that_need_words(self):
        one = grammar([("ab", "a", "flag"), ("cd", "c", "last")], [("file", "one")])
        self.harmed(one, (X,), [])
        self.harmed(one, (X, "-c", "a"), ["ab"])
        self.harmed(grammar(one[0][:1], one[1]), (X,), [])
        two = grammar(one[0], [("file", "one"), ("to", "may")])
        self.harmed(two, (X, "a"), ["ab", "cd"])

    def test_two_options_in_one_word(self):
        # "-ac" gives the one OPTION and has the other one take "-c", so that a place word is left.
        one = grammar([("ab", "a", "count"), ("cd", "c", "last"), ("ef", "e", "all")], [("file", "one")])
        self.harmed(one, (X, "-c", "v"), ["ab", "ef"])
        off = grammar([("ab", "", "count"), ("cd", "c", "last")], [("file", "one")])
        self.harmed(off, (X, "-c", "v"), [])

    def test_words_that_are_read_once_more(self):
        one = grammar([("ab", "a", "last"), ("force", "", "flag")], MANY)
        self.harmed(one, (("-a", "x"), "--", "--force"), ["force"], False)
        self.harmed(one, (("-a", "x"), "--", ("--for", "y")), ["force"])
        self.harmed(one, (("-a", "x"), "--", "--nothing"), [], True)
        self.harmed(one, (("-a", "x"), "y"), [], False)
        self.harmed(grammar([("ab", "a", "maybe"), ("force", "", "flag")], MANY), (("-a", "x"), "--", "--force"), [], False)
        off = grammar(one[0], MANY, (True, False, True))
        self.harmed(off, (X, "--force"), ["ab", "force"])

    def test_letters_that_are_read_once_more(self):
        # With nothing in the first HOLE "--" is a value, and "-v" gives an OPTION.
        one = grammar([("ab", "a", "last"), ("force", "f", "flag"), ("size", "s", "all"), ("verbose", "v", "count")], MANY)
        self.harmed(one, (("-a", "x"), "--", ("-v", "y")), ["force", "size", "verbose"])
        self.harmed(one, (("-a", "x"), "--", ("-vs", "y")), ["size", "verbose"])
        self.harmed(one, (("-a", "x"), "--", ("-z", "y")), [])
        self.harmed(one, (("-a", "x"), "--", ("z", "y")), [], False)

    def test_an_option_that_would_get_a_second_value_ahead_of_another_one(self):
        for kind, names in (("once", []), ("all", ["force"])):
            one = grammar([("ab", "a", "last"), ("cd", "c", kind), ("force", "", "flag")], MANY)
            self.harmed(one, ("-c1", ("-a", "x"), "--", "--cd=2", "--force"), names, kind == "once")
            self.harmed(one, ("-c1", ("-a", "x"), "--", ("--cd=", "y"), "--force"), names, kind == "once")

    def test_options_that_get_one_value(self):
        one = grammar([("ab", "a", "once"), ("cd", "c", "once")], MANY, (True, False, True))
        self.harmed(one, (X, "--ab=x"), ["ab", "cd"])
        self.harmed(grammar(one[0][:1], MANY, one[2]), (X, "--ab=x"), ["ab"])
        self.harmed(grammar(one[0][:1], [("file", "one"), ("to", "one")], one[2]), (X, "--ab=x"), [])
        self.harmed(one, ("-ax", X), ["cd"])

    def test_how_many_holes(self):
        for form in ((X, Y, ("", "z")), (X, X), (("--col=", "x"), ("a", "x")), ("--", X, Y, ("", "z")), ("--", X, X),
                     ("--col", X, ("a", "y"), ("a", "z"))):
            self.assertIsNotNone(shape(EXAMPLE, form))
            self.refuses(BadQuestion, None, harms, EXAMPLE, form)
            self.refuses(BadQuestion, None, refusal, EXAMPLE, form)
        self.harmed(EXAMPLE, (X, Y), ["color", "copy", "verbose"])
        self.harmed(EXAMPLE, ("--", X, Y), [], False)

    def test_24_options(self):
        for kind, other in product(("once", "last", "flag"), ("once", "all")):
            names = [sign * 6 + "-abcde" for sign in samples.LETTERS[:24]]
            one = grammar([(name, name[0], kind if n % 2 else other) for n, name in enumerate(names)], MANY)
            self.harmed(one, (X,) + ("a",) * 17 + ("--", Y), sorted(names))
            self.harmed(one, ("-a-", X), sorted(names)[1:])
            self.assertEqual(danger(one, (X, ("-c", "y"))) is not None, True)

    def test_what_is_returned_is_the_callers_own(self):
        told = harms(EXAMPLE, (X,))
        wanted = dict(told)
        told.clear()
        self.assertEqual(harms(EXAMPLE, (X,)), wanted)


if __name__ == "__main__":
    unittest.main()
