"""Promise [26]: FORMs that mend others, and that none of a lesser SIZE does."""

import unittest
from itertools import product

import samples
from keptlines.errors import BadQuestion
from keptlines.forms import form_lasts, form_size, is_sure, mended, mended_lasting, need_form, shape
from keptlines.rules import Rules
from keptlines.shapes import FormReading
from pool import KINDS
from samples import EXAMPLE, grammar

MANY = (("file", "many"),)
X, Y = ("", "x"), ("", "y")


class MendedTests(unittest.TestCase):
    def mends(self, one, form, line, lasting=None):
        """What mends a FORM is as long as this one, and what lasts as the second one, or as the first."""
        for call, wanted in ((mended, line), (mended_lasting, line if lasting is None else lasting)):
            told = call(one, form)
            self.assertIsInstance(told, tuple)
            for better in (told, wanted):
                self.assertEqual(shape(one, better), shape(one, form), (better, form))
                self.assertTrue(is_sure(one, better), better)
            self.assertEqual(form_size(told), form_size(wanted), (told, wanted))
        self.assertTrue(form_lasts(one, mended_lasting(one, form)))


class OrdinaryTests(MendedTests):
    def test_without_a_hole_it_is_the_least_line(self):
        self.mends(EXAMPLE, ("-v", "--col", "-v", "a", "--verb", "-5"), ("-vvc-v", "a", "-5"),
                   ("-vvc-v", "--", "a", "-5"))
        self.mends(EXAMPLE, (), ())
        self.mends(EXAMPLE, ("--", ""), ("",))

    def test_values(self):
        for kind in ("once", "last", "all", "maybe"):
            one, none = grammar([("abc", "a", kind)]), grammar([("abc", "", kind)])
            bare = ("--a=", "x") if kind == "maybe" else ("-a", X)
            whole = ("--abc=", "x") if kind == "maybe" else None
            flat = bare if kind != "maybe" else (bare,)
            self.mends(one, (("--ab=", "x"),), flat, whole and (whole,))
            self.mends(one, (("-a", "x"),), flat, whole and (whole,))
            self.mends(one, (("--ab=-", "x"),), (("-a-", "x"),))
            self.mends(none, (("--abc=", "x"),), (("--a=", "x"),), (("--abc=", "x"),))
            self.mends(none, (("--ab=y", "x"),), (("--a=y", "x"),), (("--abc=y", "x"),))

    def test_a_value_that_stands_apart(self):
        for kind in ("once", "last", "all"):
            one = grammar([("abc", "a", kind)])
            self.mends(one, ("--abc", X), ("-a", X))
            self.mends(one, ("--abc", ("x", "x")), (("-ax", "x"),))
            self.mends(one, ("-a", ("", "x")), ("-a", X))

    def test_letters_are_joined(self):
        one = grammar([("ab", "a", "flag"), ("cd", "c", "count"), ("ef", "e", "last"), ("gh", "g", "maybe")])
        self.mends(one, ("--ab", ("--ef=", "x")), ("-ae", X))
        self.mends(one, ("-a", "-c", "-c", ("-ey", "x")), (("-accey", "x"),))
        self.mends(one, ("-a", ("-g", "x")), ("-a", ("--g=", "x")), ("-a", ("--gh=", "x")))
        self.mends(one, ("-ac", ("-gy", "x")), (("-acgy", "x"),))
        self.mends(one, (("--ef=", "x"), ("--gh=", "y"), "-a"), ("-ae", X, ("--g=", "y")), ("-ae", X, ("--gh=", "y")))

    def test_place_words(self):
        for modes in samples.ALL_MODES:
            one = grammar([("ab", "a", "flag")], MANY, modes)
            self.mends(one, (X,), ("--", X))
            self.mends(one, ("--", X), ("--", X))
            self.mends(one, (("a", "x"),), (("a", "x"),))
            self.mends(one, ("--", ("-", "x")), ("--", ("-", "x")))
            self.mends(one, ("--", ("-5", "x")), ("--", ("-5", "x")))
            self.mends(one, ("-a", "--", "a", X), ("-a", "--", "a", X) if modes[1] else ("-a", "a", X))
            self.mends(one, ("--", ("=", "x"), X, X), ("--", ("=", "x"), X, X) if modes[1] else (("=", "x"), X, X))

    def test_number_words(self):
        one = grammar([("ab", "a", "last")], MANY)
        self.mends(one, ("-5",), ("-5",), ("--", "-5"))
        self.mends(one, ("-5", ("--a=", "x")), ("-a", X, "-5"), ("-a", X, "--", "-5"))
        self.mends(one, ("-5", X), ("--", "-5", X))
        off = grammar([("ab", "a", "last")], MANY, (True, False, True))
        self.mends(off, ("-5", X), ("-5", X), ("--", "-5", X))

    def test_forms_with_more_than_20_pieces(self):
        names = [letter + "a" for letter in samples.LETTERS[:20]]
        one = grammar([(name, name[0], "last") for name in names], MANY)
        form = tuple(("-" + name[0], name[0] + "h") for name in names)
        self.assertFalse(is_sure(one, form))
        for call in (mended, mended_lasting):
            told = call(one, form)
            self.assertEqual(told, tuple(part for name in names for part in ("-" + name[0], ("", name[0] + "h"))))
            self.assertEqual(len(told), 40)

    def test_letters_of_more_than_80_signs(self):
        form = ("-" + "v" * 79,) * 19 + (("-cr", "x"),)
        need_form(form)
        for call in (mended, mended_lasting):
            self.assertEqual(call(EXAMPLE, form), (("-" + "v" * 79 * 19 + "cr", "x"),))

    def test_forms_without_a_shape(self):
        for form in (("-x",), (("-", "x"),), (("--", "x"),), (("--co", "x"),), (("-v", "x"),), ("-ca", "-cb"), ("-c",)):
            self.assertIsNone(shape(EXAMPLE, form))
            for call in (mended, mended_lasting):
                self.assertRaises(BadQuestion, call, EXAMPLE, form)


class LeastTests(MendedTests):
    """Of all FORMs of these SIGNs and HOLEs none is shorter that mends."""

    def pieces(self, signs, holes, size):
        for text in map("".join, product(signs, repeat=size - 1)):
            yield text
            for hole in holes:
                yield (text, hole)

    def collect(self, rules, pieces, form, left, found):
        """Note in found the least SIZE of FORMs with each SHAPE: of all, with the FORM, of SURE ones, of lasting ones."""
        reading = FormReading(rules)
        for piece in form:
            reading.read_piece(piece)
            if reading.refused:
                return
        told = reading.shape()
        if told is not None:
            size = form_size(form)
            row = found.setdefault(told, [(99, ()), 99, 99])
            row[0] = min(row[0], (size, form), key=lambda one: one[0])
            if reading.is_sure():
                row[1] = min(row[1], size)
                row[2] = min(row[2], size if reading.is_lasting() else 99)
        for size in range(1, left + 1):
            for piece in pieces[size]:
                self.collect(rules, pieces, form + (piece,), left - size, found)

    def check(self, one, signs, holes, most):
        pieces = {size: list(self.pieces(signs, holes, size)) for size in range(1, most + 1)}
        found = {}
        self.collect(Rules(one), pieces, (), most, found)
        exact = 0
        for told, ((_, form), sure, lasting) in found.items():
            for call, least in ((mended, sure), (mended_lasting, lasting)):
                better = call(one, form)
                self.assertEqual(shape(one, better), told)
                self.assertTrue(is_sure(one, better))
                self.assertLessEqual(form_size(better), least, (one, form, better))
                texts = "".join(piece if isinstance(piece, str) else piece[0] for piece in better)
                if form_size(better) <= most and set(texts) <= set(signs):
                    self.assertEqual(form_size(better), least, (one, form, better))
                    exact += 1
            self.assertTrue(form_lasts(one, mended_lasting(one, form)))
        return exact

    def test_all_kinds(self):
        for kind in KINDS:
            for letter, modes in (("a", samples.ON), ("", (True, False, True))):
                one = grammar([("aa", letter, kind)], (("pa", "may"),), modes)
                self.assertGreater(self.check(one, "a-=", "x", 6), 5)

    def test_several_options(self):
        for first, second in (("flag", "last"), ("count", "maybe"), ("maybe", "once"), ("all", "flag")):
            one = grammar([("aa", "a", first), ("bb", "b", second)], (("pa", "may"),))
            self.assertGreater(self.check(one, "ab-", "x", 6), 10)

    def test_two_holes(self):
        one = grammar([("aa", "a", "all")], MANY)
        self.assertGreater(self.check(one, "a-", "xy", 6), 20)
        off = grammar([("aa", "a", "last")], MANY, (True, False, True))
        self.assertGreater(self.check(off, "a-", "xy", 6), 20)

    def test_number_words(self):
        for modes in samples.ALL_MODES:
            self.check(grammar([("aa", "a", "flag")], MANY, modes), "a-5", "x", 6)


if __name__ == "__main__":
    unittest.main()
