"""Promise [3], what a GRAMMAR is, and what keptlines.grammars tells of one."""

import unittest

import samples
from keptlines import grammars
from keptlines.errors import BadGrammar
from keptlines.reading import lasts, meaning
from samples import EXAMPLE, OFF, ON, grammar

FLAG = ("flag-a", "a", "flag")
COUNT = ("count-b", "b", "count")
FILE = ("file", "one")
REST = ("rest", "many")


class Refusals(unittest.TestCase):
    def refused(self, thing, place):
        """The thing is refused, with this place, by all that take GRAMMARs."""
        calls = [
            grammars.need_grammar, grammars.tellings, grammars.numbers,
            lambda one: grammars.with_options(one, ()), lambda one: grammars.with_options(one, ("bad",)),
            lambda one: meaning(one, ()), lambda one: meaning(one, None),
            lambda one: lasts(one, ()), lambda one: lasts(one, ["a"]),
        ]
        for call in calls:
            with self.assertRaises(BadGrammar, msg=samples.show(thing)) as caught:
                call(thing)
            self.assertEqual(caught.exception.place, place, samples.show(thing))
            self.assertIs(caught.exception.__class__, BadGrammar)
        self.assertIs(grammars.is_grammar(thing), False, samples.show(thing))

    def taken(self, thing):
        self.assertIs(grammars.need_grammar(thing), thing)
        self.assertIs(grammars.is_grammar(thing), True)


class GrammarTests(Refusals):
    def test_constants(self):
        self.assertEqual(grammars.KINDS, ("flag", "count", "once", "last", "all", "maybe"))
        self.assertEqual(grammars.ARITIES, ("one", "may", "many"))
        self.assertEqual((grammars.MOST_OPTIONS, grammars.MOST_PLACES), (24, 5))

    def test_grammars(self):
        self.taken(EXAMPLE)
        self.taken(((), (), OFF))
        for modes in samples.ALL_MODES:
            self.taken(((FLAG,), (FILE,), modes))

    def test_an_option_and_a_place_may_share_a_name(self):
        self.taken(grammar([("file", "f", "all")], [FILE]))

    def test_no_tuple_of_three(self):
        for thing in samples.odd_things() + ["", "abc", (), ((),), ((), ()), ((), (), ON, ON)]:
            self.refused(thing, ())
        self.refused([(), (), ON], ())

    def test_tuples_that_belong_nowhere(self):
        for thing in samples.odd_tuples():
            if len(thing) != 3:
                self.refused(thing, ())
            elif isinstance(thing[0], tuple):
                self.refused(thing, ("options", 0))
            else:
                self.refused(thing, ("options",))


class OptionsTests(Refusals):
    def bad(self, options, *place):
        self.refused((options, (), ON), ("options",) + place)

    def test_no_tuple(self):
        for thing in samples.odd_things() + ["", "abc"]:
            self.bad(thing)
        self.bad([FLAG])

    def test_24_options_and_25(self):
        self.taken(grammar(samples.many_options(24)))
        self.bad(samples.many_options(25))
        self.bad((None,) * 25)

    def test_items_that_are_no_options(self):
        odd = samples.odd_things() + samples.odd_tuples() + [
            (), "abc", "flag", FLAG[:2], FLAG + ("",), list(FLAG),
        ]
        for thing in odd:
            self.bad((thing,), 0)
            self.bad((FLAG, COUNT, thing, None), 2)

    def test_names(self):
        for name in ("a", "a" * 13, "a-", "-a", "a0", "", "Ab", "ab\n", "a=b", "a.b"):
            self.bad(((name, "", "flag"),), 0)
        for name in ("aa", "a" * 12, "a--b"):
            self.taken(grammar([(name, "", "flag")]))

    def test_letters(self):
        for code in range(128):
            option = ("ab", chr(code), "flag")
            if chr(code) in samples.LETTERS:
                self.taken(grammar([option]))
            else:
                self.bad((option,), 0)
        for letter in ("ab", "aa", "01", "-a", "abcdefghij"):
            self.bad((("ab", letter, "flag"),), 0)

    def test_kinds(self):
        for kind in grammars.KINDS:
            self.taken(grammar([("ab", "a", kind)]))
        for kind in ("", "f", "flags", "Flag", "one", "many", "may", "flag "):
            self.bad((("ab", "a", kind),), 0)

    def test_other_kinds_of_parts(self):
        for thing in samples.odd_things() + samples.odd_tuples() + [(), ("ab",), ("a", "b")]:
            self.bad((FLAG, (thing, "z", "flag")), 1)
            self.bad((FLAG, ("zz", thing, "flag")), 1)
            self.bad((FLAG, ("zz", "z", thing)), 1)

    def test_a_name_taken_twice(self):
        self.bad((("ab", "a", "flag"), ("ac", "", "flag"), ("ab", "b", "all")), 2)
        self.taken(grammar([("ab", "", "flag"), ("abc", "", "flag"), ("a-b", "", "flag")]))

    def test_a_letter_taken_twice(self):
        self.bad((("ab", "a", "flag"), ("ac", "b", "flag"), ("ad", "a", "all")), 2)
        self.bad((("ab", "0", "flag"), ("ac", "0", "flag")), 1)
        self.taken(grammar([("ab", "", "flag"), ("ac", "", "flag"), ("ad", "", "flag")]))

    def test_the_first_fault_counts(self):
        self.bad((FLAG, FLAG, None), 1)
        self.bad((FLAG, None, FLAG), 1)
        self.bad((FLAG, ("zz", "a", "last"), ("flag-a", "", "flag")), 1)


class PlacesTests(Refusals):
    def bad(self, places, *place):
        self.refused(((FLAG,), places, ON), ("places",) + place)

    def test_no_tuple(self):
        for thing in samples.odd_things() + ["", "ab"]:
            self.bad(thing)
        self.bad([FILE])

    def test_5_places_and_6(self):
        self.taken(grammar((), samples.many_places(5)))
        self.bad(samples.many_places(6))
        self.bad((None,) * 6)

    def test_items_that_are_no_places(self):
        odd = samples.odd_things() + samples.odd_tuples() + [
            (), "ab", ("file",), FILE + ("",), list(FILE), ("one", "file"),
        ]
        for thing in odd:
            self.bad((thing,), 0)
            self.bad((FILE, REST, thing, None), 2)

    def test_names(self):
        for name in ("a", "a" * 13, "a-", "-a", "a0", "", "Ab", "ab\n"):
            self.bad(((name, "one"),), 0)
        for name in ("aa", "a" * 12, "a--b"):
            self.taken(grammar((), [(name, "one")]))

    def test_arities(self):
        for arity in grammars.ARITIES:
            self.taken(grammar((), [("ab", arity)]))
        for arity in ("", "o", "ones", "One", "flag", "maybe"):
            self.bad((("ab", arity),), 0)

    def test_other_kinds_of_parts(self):
        for thing in samples.odd_things() + samples.odd_tuples() + [(), ("ab",), ("a", "b")]:
            self.bad((FILE, (thing, "one")), 1)
            self.bad((FILE, ("zz", thing)), 1)

    def test_a_name_taken_twice(self):
        self.bad((FILE, ("to", "one"), ("file", "may")), 2)

    def test_a_second_many(self):
        self.bad((REST, FILE, ("more", "many")), 2)
        self.bad((REST, ("more", "many"), ("yet-more", "many"), None), 1)
        self.taken(grammar((), [REST, FILE, ("to", "one"), ("as", "may"), ("by", "may")]))

    def test_the_first_fault_counts(self):
        self.bad((FILE, FILE, None), 1)
        self.bad((REST, None, ("more", "many")), 1)


class ModesTests(Refusals):
    def bad(self, modes):
        self.refused(((FLAG,), (FILE,), modes), ("modes",))

    def test_no_tuple_of_three(self):
        for thing in samples.odd_things() + samples.odd_tuples() + ["", "abc", ()]:
            self.bad(thing)
        self.bad([True, True, True])
        self.bad((True, True))
        self.bad((True, True, True, True))

    def test_other_kinds_of_items(self):
        odd = [thing for thing in samples.odd_things() if not isinstance(thing, bool)]
        for thing in odd + samples.odd_tuples() + ["", "True", "short"]:
            self.bad((thing, True, True))
            self.bad((True, thing, True))
            self.bad((False, False, thing))


class OrderTests(Refusals):
    def test_the_first_of_several_faults(self):
        self.refused((None, None, None), ("options",))
        self.refused(((None,), None, None), ("options", 0))
        self.refused(((FLAG, FLAG), (REST, None), (1, 1, 1)), ("options", 1))
        self.refused(((FLAG,), None, None), ("places",))
        self.refused(((FLAG,), (FILE, FILE), None), ("places", 1))
        self.refused(((FLAG,), (FILE,), None), ("modes",))
        self.refused((None, None), ())
        self.refused((None, None, None, None), ())


class TellingsTests(unittest.TestCase):
    def test_the_example(self):
        self.assertEqual(grammars.tellings(EXAMPLE), {
            "col": "color", "colo": "color", "color": "color", "cop": "copy", "copy": "copy",
            "v": "verbose", "ve": "verbose", "ver": "verbose", "verb": "verbose",
            "verbo": "verbose", "verbos": "verbose", "verbose": "verbose",
        })

    def test_ascending(self):
        told = grammars.tellings(grammar([("zz", "", "flag"), ("a-b", "", "flag"), ("ab", "", "flag")]))
        self.assertEqual(list(told), ["a-", "a-b", "ab", "z", "zz"])

    def test_not_short(self):
        for modes in samples.ALL_MODES:
            if not modes[0]:
                told = grammars.tellings((EXAMPLE[0][::-1], (), modes))
                self.assertEqual(list(told.items()), [(n, n) for n in ("color", "copy", "verbose")])

    def test_a_name_that_another_begins_with(self):
        options = [("abcd", "", "flag"), ("ab", "", "flag"), ("abce", "", "flag")]
        told = grammars.tellings(grammar(options))
        self.assertEqual(list(told.items()), [("ab", "ab"), ("abcd", "abcd"), ("abce", "abce")])
        told = grammars.tellings(grammar(options[:2]))
        self.assertEqual(list(told.items()), [("ab", "ab"), ("abc", "abcd"), ("abcd", "abcd")])

    def test_no_options(self):
        self.assertEqual(grammars.tellings(grammar()), {})

    def test_nothing_tells_no_option(self):
        self.assertEqual(list(grammars.tellings(grammar([("abc", "", "last")]))), ["a", "ab", "abc"])

    def test_places_are_not_told(self):
        self.assertEqual(grammars.tellings(grammar((), [FILE])), {})

    def test_against_the_words_of_the_document(self):
        names = ("ab", "abc", "abd-e", "b-c", "bc", "ca")
        for short in (True, False):
            one = grammar([(name, "", "flag") for name in names], (), (short, True, True))
            told = {}
            for text in sorted({name[:end] for name in names for end in range(len(name) + 1)}):
                owners = [name for name in names if name.startswith(text)]
                if text in names:
                    told[text] = text
                elif short and text != "" and len(owners) == 1:
                    told[text] = owners[0]
            self.assertEqual(list(grammars.tellings(one).items()), list(told.items()))


class NumbersTests(unittest.TestCase):
    def check(self, arities, pair):
        places = [("place-" + samples.LETTERS[n], arity) for n, arity in enumerate(arities)]
        self.assertEqual(grammars.numbers(grammar((), places)), pair)

    def test_numbers(self):
        self.check((), (0, 0))
        self.check(("one",), (1, 1))
        self.check(("may",), (0, 1))
        self.check(("many",), (0, None))
        self.check(("one", "many"), (1, None))
        self.check(("may", "one", "may", "one"), (2, 4))
        self.check(("may", "many", "one", "may", "one"), (2, None))
        self.check(("one",) * 5, (5, 5))
        self.check(("may",) * 5, (0, 5))

    def test_integers(self):
        for number in grammars.numbers(grammar((), [FILE, ("to", "may")])):
            self.assertIs(number.__class__, int)


class SharesTests(unittest.TestCase):
    """How place words are dealt [6]; the words themselves are in test_reading."""

    def test_shares(self):
        places = [("aa", "may"), ("bb", "many"), ("cc", "one"), ("dd", "may")]
        self.assertIsNone(grammars.shares(places, 0))
        self.assertEqual(grammars.shares(places, 1), [0, 0, 1, 0])
        self.assertEqual(grammars.shares(places, 2), [1, 0, 1, 0])
        self.assertEqual(grammars.shares(places, 3), [1, 0, 1, 1])
        self.assertEqual(grammars.shares(places, 4), [1, 1, 1, 1])
        self.assertEqual(grammars.shares(places, 80), [1, 77, 1, 1])

    def test_without_many(self):
        places = [("aa", "may"), ("cc", "one")]
        self.assertEqual(grammars.shares(places, 2), [1, 1])
        self.assertIsNone(grammars.shares(places, 3))
        self.assertEqual(grammars.shares([], 0), [])
        self.assertIsNone(grammars.shares([], 1))


class WithOptionsTests(unittest.TestCase):
    def bad(self, one, options, place):
        with self.assertRaises(BadGrammar) as caught:
            grammars.with_options(one, options)
        self.assertEqual(caught.exception.place, place)

    def test_behind_its_options(self):
        one = grammar([FLAG], [FILE], (True, False, True))
        self.assertEqual(grammars.with_options(one, (("zz", "z", "all"), COUNT)),
                         ((FLAG, ("zz", "z", "all"), COUNT), (FILE,), (True, False, True)))
        self.assertEqual(grammars.with_options(one, ()), one)
        self.assertEqual(one, ((FLAG,), (FILE,), (True, False, True)))

    def test_what_comes_of_it(self):
        one = grammar([FLAG], [FILE])
        self.bad(one, (COUNT, FLAG), ("options", 2))
        self.bad(one, (("zz", "a", "flag"),), ("options", 1))
        self.bad(one, (("zz", "", "flag"), ("z", "", "flag"), None), ("options", 2))
        for thing in samples.odd_things() + samples.odd_tuples() + ["", ()]:
            self.bad(one, (thing,), ("options", 1))

    def test_24_and_25(self):
        options = samples.many_options(25)
        one = grammar(options[:20])
        self.assertEqual(grammars.with_options(one, options[20:24])[0], options[:24])
        self.bad(one, options[20:25], ("options",))
        self.bad(one, (None,) * 5, ("options",))
        self.bad(grammar(options[:24]), (None,), ("options",))

    def test_no_tuple(self):
        self.bad(grammar([FLAG]), [COUNT], ("options",))
        self.bad(grammar([FLAG]), None, ("options",))


if __name__ == "__main__":
    unittest.main()
