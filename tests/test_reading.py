"""Promises [4] to [7]: how a LINE is read, and what it means."""

import unittest

import samples
from keptlines.errors import BadGrammar, BadLine
from keptlines.reading import lasts, meaning
from samples import EXAMPLE, grammar

MANY = (("file", "many"),)

# Each KIND with a LETTER and without one.
KINDS = (
    ("flag", "f", "flag"), ("count", "c", "count"), ("once", "o", "once"),
    ("last", "l", "last"), ("all", "a", "all"), ("maybe", "m", "maybe"),
    ("x-flag", "", "flag"), ("x-once", "", "once"),
)


class MeaningTests(unittest.TestCase):
    def means(self, one, line, held, *words):
        """The LINE holds this, and its place words all go to the PLACE "file"."""
        filled = (("file", words),) if words else ()
        self.assertEqual(meaning(one, tuple(line)), (tuple(held), filled), line)

    def refused(self, one, *lines):
        for line in lines:
            self.assertIsNone(meaning(one, line), line)
            self.assertIs(lasts(one, line), False, line)


class ExampleTests(MeaningTests):
    def test_the_example(self):
        self.assertEqual(
            meaning(EXAMPLE, ("-vvcred", "a", "--col", "-v", "-5")),
            ((("color", "-v"), ("verbose", 2)), (("file", ("a", "-5")),)))
        self.assertIsNone(meaning(EXAMPLE, ("--co",)))

    def test_the_empty_line(self):
        self.assertEqual(meaning(EXAMPLE, ()), ((), ()))
        self.assertEqual(meaning(grammar(), ()), ((), ()))


class PlaceWordTests(MeaningTests):
    """Which WORDs are place words [4]."""

    def test_words_that_are_not_dashed(self):
        for modes in samples.ALL_MODES:
            one = grammar(KINDS, MANY, modes)
            for word in ("", "-", "a", "f", "a-b", "=", ".", "5", "flag", "x--", "80"):
                self.means(one, (word,), (), word)
                self.means(one, (word, word), (), word, word)

    def test_mixed(self):
        for short in (True, False):
            for minus in (True, False):
                one = grammar(KINDS, MANY, (short, True, minus))
                self.means(one, ("a", "-f", "", "--count", "-"), (("count", 1), ("flag", 1)), "a", "", "-")

    def test_not_mixed(self):
        for short in (True, False):
            for minus in (True, False):
                one = grammar(KINDS, MANY, (short, False, minus))
                self.means(one, ("-f", "a", "-f", "--", "--no", "-=", "-5"), (("flag", 1),),
                           "a", "-f", "--", "--no", "-=", "-5")
                self.means(one, ("", "--"), (), "", "--")
                self.means(one, ("-", "-f"), (), "-", "-f")

    def test_closed_by_two_dashes(self):
        for modes in samples.ALL_MODES:
            one = grammar(KINDS, MANY, modes)
            self.means(one, ("--",), ())
            self.means(one, ("--", "--"), (), "--")
            self.means(one, ("-f", "--", "-f", "--flag", "-5", "--none", "-", ""), (("flag", 1),),
                       "-f", "--flag", "-5", "--none", "-", "")

    def test_a_line_that_is_closed_already(self):
        self.means(grammar(KINDS, MANY), ("a", "--", "b", "--"), (), "a", "b", "--")


class LongTests(MeaningTests):
    """WORDs that begin with "--" [4]."""

    def test_without_a_value(self):
        one = grammar(KINDS, MANY)
        self.means(one, ("--flag",), (("flag", 1),))
        self.means(one, ("--count",), (("count", 1),))
        self.means(one, ("--maybe",), (("maybe", 1),))
        self.means(one, ("--maybe", "a"), (("maybe", 1),), "a")
        self.refused(one, ("--once",), ("--last",), ("--all",), ("--x-once",), ("a", "--once"))

    def test_awaited(self):
        one = grammar(KINDS, MANY)
        for word in ("", "a", "-", "--", "--=", "-=", "-5", "-f", "--flag", "--none", "--once", "="):
            self.means(one, ("--once", word), (("once", word),))
            self.means(one, ("--last", word), (("last", word),))
            self.means(one, ("--all", word), (("all", (word,)),))
            self.means(one, ("--all", word, "b", "--all", word), (("all", (word, word)),), "b")
            self.means(one, ("--x-once", word, "-f"), (("flag", 1), ("x-once", word)))

    def test_behind_an_equals_sign(self):
        one = grammar(KINDS, MANY)
        for value in ("", "a", "=", "-f", "--", "a=b", "==", "-5"):
            self.means(one, ("--once=" + value, "b"), (("once", value),), "b")
            self.means(one, ("--last=" + value, "b"), (("last", value),), "b")
            self.means(one, ("--all=" + value, "b"), (("all", (value,)),), "b")
            self.means(one, ("--maybe=" + value, "b"), (("maybe", value),), "b")
            self.refused(one, ("--flag=" + value,), ("--count=" + value,), ("--x-flag=" + value,))

    def test_what_tells_nothing(self):
        for modes in samples.ALL_MODES:
            one = grammar(KINDS, MANY, modes)
            self.refused(one, ("--=",), ("--=a",), ("--none",), ("--none=a",), ("---",), ("---flag",),
                         ("--flagg",), ("--flag-",), ("--f.",), ("--.",), ("--5",), ("--x",), ("--x-",))
            self.refused(grammar((), MANY, modes), ("--=",), ("--a",), ("---",))

    def test_a_refused_word_refuses_the_line(self):
        one = grammar(KINDS, MANY)
        self.refused(one, ("-f", "--none", "--", "a"), ("--once=a", "--none"))


class ToldTests(MeaningTests):
    """What is TOLD [5]."""

    SHARED = (("color", "", "flag"), ("copy", "", "count"), ("copy-all", "", "last"), ("zz", "", "maybe"))

    def test_shortenings(self):
        for mixed in (True, False):
            one = grammar(self.SHARED, MANY, (True, mixed, False))
            self.means(one, ("--col",), (("color", 1),))
            self.means(one, ("--colo",), (("color", 1),))
            self.means(one, ("--copy-",) + ("b",), (("copy-all", "b"),))
            self.means(one, ("--copy-a=b",), (("copy-all", "b"),))
            self.means(one, ("--z",), (("zz", 1),))
            self.means(one, ("--z=",), (("zz", ""),))

    def test_what_two_names_share(self):
        one = grammar(self.SHARED, MANY)
        self.refused(one, ("--c",), ("--co",), ("--cop",), ("--c=a",), ("--cop=a",), ("--co", "a"))

    def test_a_name_that_is_the_beginning_of_another_one(self):
        for modes in samples.ALL_MODES:
            for options in (self.SHARED, self.SHARED[::-1]):
                one = grammar(options, MANY, modes)
                self.means(one, ("--copy",), (("copy", 1),))
                self.means(one, ("--copy-all", "b"), (("copy-all", "b"),))
                self.refused(one, ("--copy=b",), ("--copy-all",))

    def test_not_short(self):
        for mixed in (True, False):
            one = grammar(self.SHARED, MANY, (False, mixed, True))
            self.refused(one, ("--col",), ("--copy-",), ("--copy-a=b",), ("--z",), ("--z=",))
            self.means(one, ("--zz",), (("zz", 1),))

    def test_only_one_option(self):
        one = grammar([("ab", "", "flag")], MANY)
        self.means(one, ("--a",), (("ab", 1),))
        self.refused(one, ("--=",), ("--abc",), ("--b",))
        for kind in ("once", "last", "all", "maybe"):
            one = grammar([("ab", "", kind)], MANY)
            self.means(one, ("--a=b",), (("ab", ("b",) if kind == "all" else "b"),))
            self.refused(one, ("--=",), ("--=b",), ("--=", "b"))

    def test_names_and_letters_are_told_apart(self):
        one = grammar([("ab", "c", "flag"), ("cd", "a", "count")], MANY)
        self.means(one, ("--a", "--c", "-c", "-a", "-a"), (("ab", 1), ("cd", 3)))


class NumberTests(MeaningTests):
    """NUMBER WORDs [4]."""

    def test_minus(self):
        for short in (True, False):
            one = grammar(KINDS, MANY, (short, True, True))
            self.means(one, ("-5", "-f", "-0", "-123"), (("flag", 1),), "-5", "-0", "-123")

    def test_minus_and_not_mixed(self):
        one = grammar(KINDS, MANY, (True, False, True))
        self.means(one, ("-f", "-5", "-f", "--none"), (("flag", 1),), "-5", "-f", "--none")

    def test_not_minus(self):
        for short in (True, False):
            for mixed in (True, False):
                one = grammar(KINDS, MANY, (short, mixed, False))
                self.refused(one, ("-5",), ("-0",), ("-123",), ("-f5",), ("-f", "-5"))
                self.means(one, ("--", "-5"), (), "-5")

    def test_no_number_words(self):
        one = grammar(KINDS, MANY)
        self.refused(one, ("-5.5",), ("-5-",), ("-5=",), ("-5a",), ("-f5",), ("-.5",), ("--5",))

    def test_a_figure_as_a_letter(self):
        for modes in samples.ALL_MODES:
            one = grammar(KINDS + (("five", "5", "count"), ("six", "6", "all")), MANY, modes)
            self.means(one, ("-5", "-55", "-f5"), (("five", 4), ("flag", 1)))
            self.means(one, ("-56", "-67", "-6", "-5"), (("five", 1), ("six", ("-67", "-5"))))
            self.means(one, ("-567", "-65"), (("five", 1), ("six", ("7", "5"))))
            self.refused(one, ("-0",), ("-50",), ("-05",), ("-7",), ("-6",))
            self.means(one, ("--", "-0"), (), "-0")
            self.means(one, ("-", "5"), (), "-", "5")

    def test_a_number_word_as_a_value(self):
        for modes in samples.ALL_MODES:
            one = grammar(KINDS, MANY, modes)
            self.means(one, ("-l", "-5", "--last", "-6", "-l-7"), (("last", "-7"),))
            self.means(one, ("-o-5",), (("once", "-5"),))


class LetterTests(MeaningTests):
    """WORDs of "-" and LETTERs [4]."""

    def test_joined(self):
        one = grammar(KINDS, MANY)
        self.means(one, ("-fcc", "-c"), (("count", 3), ("flag", 1)))
        self.means(one, ("-ff",), (("flag", 1),))

    def test_last_in_a_word(self):
        one = grammar(KINDS, MANY)
        self.means(one, ("-f", "b"), (("flag", 1),), "b")
        self.means(one, ("-c", "b"), (("count", 1),), "b")
        self.means(one, ("-m", "b"), (("maybe", 1),), "b")
        self.means(one, ("-fm", "b"), (("flag", 1), ("maybe", 1)), "b")
        for value in ("b", "", "-", "--", "-f", "--flag", "-=", "-5"):
            self.means(one, ("-o", value), (("once", value),))
            self.means(one, ("-l", value), (("last", value),))
            self.means(one, ("-a", value), (("all", (value,)),))
            self.means(one, ("-fca", value, "-f"), (("all", (value,)), ("count", 1), ("flag", 1)))
        self.refused(one, ("-o",), ("-l",), ("-a",), ("-fo",), ("b", "-a"))

    def test_not_last_in_a_word(self):
        one = grammar(KINDS, MANY)
        for value in ("b", "f", "ff", "=", "=b", "-", "--", "-5", "5", "."):
            self.means(one, ("-o" + value, "b"), (("once", value),), "b")
            self.means(one, ("-l" + value, "b"), (("last", value),), "b")
            self.means(one, ("-a" + value, "b"), (("all", (value,)),), "b")
            self.means(one, ("-m" + value, "b"), (("maybe", value),), "b")
            self.means(one, ("-fcm" + value,), (("count", 1), ("flag", 1), ("maybe", value)))

    def test_each_letter(self):
        for letter in samples.LETTERS:
            one = grammar([("ab", "", "flag"), ("abc", letter, "count"), ("zz", "", "count")])
            self.means(one, ("-" + letter + letter,), (("abc", 2),))
            self.refused(one, ("-" + letter + "-",))

    def test_signs_that_are_no_letters(self):
        for modes in samples.ALL_MODES:
            one = grammar(KINDS, MANY, modes)
            self.refused(one, ("-=",), ("-z",), ("-fz",), ("-f-",), ("-f=",), ("-f=b",), ("-.",),
                         ("-c.",), ("-x",), ("-fzo", "b"), ("-z", "b"))

    def test_no_letters_at_all(self):
        one = grammar([("ab", "", "flag")], MANY)
        self.refused(one, ("-a",), ("-ab",), ("-=",))


class HeldTests(MeaningTests):
    """What HELD tells of each KIND [7], and what is refused at the end [4]."""

    def test_flag(self):
        self.means(grammar(KINDS), ("-f", "--flag", "-ff"), (("flag", 1),))

    def test_count(self):
        self.means(grammar(KINDS), ("-c",) * 80, (("count", 80),))
        self.means(grammar(KINDS), ("-" + "c" * 79, "--count"), (("count", 80),))

    def test_once(self):
        one = grammar(KINDS, MANY)
        self.means(one, ("--once=",), (("once", ""),))
        self.refused(one, ("--once=a", "--once=b"), ("-oa", "--once=a"), ("-o", "a", "b", "-o", "a"),
                     ("--once=", "--on="), ("-oa", "-oa", "-f"))
        self.refused(one, ("-oa", "-o"))
        self.means(one, ("-oa", "--x-once=a"), (("once", "a"), ("x-once", "a")))

    def test_last(self):
        self.means(grammar(KINDS), ("--last=a", "-lb", "-l", "c", "--last", ""), (("last", ""),))

    def test_all(self):
        self.means(grammar(KINDS), ("--all=a", "-ab", "-a", "a", "--all", ""), (("all", ("a", "b", "a", "")),))

    def test_maybe(self):
        one = grammar(KINDS)
        self.means(one, ("-m", "--maybe=a"), (("maybe", "a"),))
        self.means(one, ("--maybe=a", "-m"), (("maybe", 1),))
        self.means(one, ("-ma", "--maybe=b", "--maybe"), (("maybe", 1),))
        self.means(one, ("--maybe", "-mb"), (("maybe", "b"),))
        self.means(one, ("--maybe=1",), (("maybe", "1"),))
        self.means(one, ("--maybe=",), (("maybe", ""),))

    def test_ascending(self):
        one = grammar([("zz", "z", "flag"), ("a-b", "", "flag"), ("ab", "a", "all"), ("mm", "m", "maybe")])
        self.means(one, ("-z", "-m", "--ab=b", "--a-b", "-z"),
                   (("a-b", 1), ("ab", ("b",)), ("mm", 1), ("zz", 1)))

    def test_integers_are_never_true(self):
        held = meaning(grammar(KINDS), ("-f", "-c", "-m", "--x-flag"))[0]
        self.assertEqual([what.__class__ for _, what in held], [int, int, int, int])

    def test_awaited_at_the_end(self):
        self.refused(grammar(KINDS, MANY), ("--last",), ("-l", "a", "-l"), ("--once=a", "--all"), ("a", "-a"))


class DealingTests(unittest.TestCase):
    """How place words are dealt [6]."""

    def check(self, arities, dealt):
        """By PLACEs with these ARITIES, so many words go to each, or None."""
        places = tuple(("p-" + samples.LETTERS[n], arity) for n, arity in enumerate(arities))
        for modes in samples.ALL_MODES:
            one = grammar((), places, modes)
            for many, counts in enumerate(dealt):
                words = tuple("w" + str(n) for n in range(many))
                told = meaning(one, words)
                if counts is None:
                    self.assertIsNone(told, (arities, many))
                    continue
                wanted = []
                for (name, _), count in zip(places, counts):
                    if count > 0:
                        wanted.append((name, words[:count]))
                    words = words[count:]
                self.assertEqual(told, ((), tuple(wanted)), (arities, many))

    def test_no_places(self):
        self.check((), [(), None, None])

    def test_one(self):
        self.check(("one",), [None, (1,), None])
        self.check(("one", "one"), [None, None, (1, 1), None])
        self.check(("one",) * 5, [None] * 5 + [(1,) * 5, None])

    def test_may(self):
        self.check(("may",), [(0,), (1,), None])
        self.check(("may", "may"), [(0, 0), (1, 0), (1, 1), None])
        self.check(("may", "one", "may"), [None, (0, 1, 0), (1, 1, 0), (1, 1, 1), None])
        self.check(("may",) * 5, [(1,) * n + (0,) * (5 - n) for n in range(6)] + [None])

    def test_many(self):
        self.check(("many",), [(n,) for n in range(8)])
        self.check(("one", "many"), [None, (1, 0), (1, 1), (1, 2)])
        self.check(("many", "one"), [None, (0, 1), (1, 1), (2, 1)])
        self.check(("many", "may"), [(0, 0), (0, 1), (1, 1), (2, 1)])
        self.check(("may", "many", "one", "may"),
                   [None, (0, 0, 1, 0), (1, 0, 1, 0), (1, 0, 1, 1), (1, 1, 1, 1), (1, 2, 1, 1)])
        self.check(("one", "many", "one"), [None, None, (1, 0, 1), (1, 1, 1), (1, 2, 1)])

    def test_the_order_of_places(self):
        one = grammar([("ab", "a", "flag")], [("to", "one"), ("from", "one"), ("as", "many")])
        self.assertEqual(meaning(one, ("z", "-a", "y", "x", "", "x")),
                         ((("ab", 1),), (("to", ("z",)), ("from", ("y",)), ("as", ("x", "", "x")))))

    def test_80_place_words(self):
        one = grammar((), [("to", "one"), ("as", "many")])
        self.assertEqual(meaning(one, ("",) * 80), ((), (("to", ("",)), ("as", ("",) * 79))))


class WrongTests(unittest.TestCase):
    """What meaning and lasts refuse, and what comes first [1]."""

    def refused(self, error, place, one, line):
        for call in (meaning, lasts):
            with self.assertRaises(error, msg=samples.show(line)) as caught:
                call(one, line)
            self.assertEqual(caught.exception.place, place)
            self.assertIs(caught.exception.__class__, error)

    def test_no_line(self):
        for thing in samples.odd_things() + ["", "--color", ["a"], ("",) * 81]:
            self.refused(BadLine, (), EXAMPLE, thing)
        for thing in samples.odd_things() + samples.odd_tuples() + ["A", "a b", "a" * 81, "a\n"]:
            self.refused(BadLine, (2,), EXAMPLE, ("--none", "", thing, None))

    def test_the_longest_line(self):
        self.assertEqual(meaning(EXAMPLE, ("a" * 80,) * 80), ((), (("file", ("a" * 80,) * 80),)))

    def test_the_grammar_comes_first(self):
        self.refused(BadGrammar, (), None, None)
        self.refused(BadGrammar, ("modes",), (EXAMPLE[0], EXAMPLE[1], (1, 1, 1)), ("A",))
        self.refused(BadGrammar, ("options", 1), grammar([KINDS[0], KINDS[0]]), None)

    def test_equal_calls_return_equal_results(self):
        line = ("-vvcred", "a", "--col", "-v", "-5")
        self.assertEqual(meaning(EXAMPLE, line), meaning(EXAMPLE, line))
        self.assertEqual(lasts(EXAMPLE, line), lasts(EXAMPLE, line))
        self.assertEqual(EXAMPLE, grammar(
            [("color", "c", "last"), ("copy", "", "flag"), ("verbose", "v", "count")], MANY))


if __name__ == "__main__":
    unittest.main()
