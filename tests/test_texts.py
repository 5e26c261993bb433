"""Promise [28]: texts of LINEs, FORMs and GRAMMARs, and how they are read back."""

import unittest
from random import Random

import drawn
import pool
import samples
from keptlines.errors import BadForm, BadGrammar, BadLine, BadText
from keptlines.texts import form_text, grammar_text, line_text, read_form, read_grammar, read_line
from samples import EXAMPLE, grammar

EXAMPLE_TEXT = ("option color c last\noption copy - flag\noption verbose v count\nplace file many\n"
                "modes short mixed minus")


class TextTests(unittest.TestCase):
    def refuses(self, error, place, call, *arguments):
        with self.assertRaises(error, msg=samples.show(arguments)) as caught:
            call(*arguments)
        self.assertIs(caught.exception.__class__, error)
        self.assertEqual(caught.exception.place, place, samples.show(arguments))

    def bad(self, call, text, *place):
        self.refuses(BadText, place, call, text)


class LineTests(TextTests):
    def test_texts(self):
        for line, text in (
            ((), ""), (("",), "''"), (("a",), "a"), (("", ""), "'' ''"), (("--", "-5", "", "=.-"), "-- -5 '' =.-"),
            (("x" * 80,) * 80, " ".join(["x" * 80] * 80)),
        ):
            self.assertEqual(line_text(line), text)
            self.assertEqual(read_line(text), line)

    def test_all_short_lines_are_read_back(self):
        for line in pool.all_lines(4, "ab-=5"):
            self.assertEqual(read_line(line_text(line)), line)

    def test_what_is_no_text(self):
        for text, number in (
            (" ", 0), ("  ", 0), (" a", 0), ("a ", 1), ("a  b", 1), ("a b ", 2), ("'' ", 1), ("'", 0), ("a ' b", 1),
            ("'''", 0), ("''a", 0), ("a''", 0), ("a A", 1), ("a\nb", 0), ("a\n", 0), ("\n", 0), ("a \n", 1), ("a b\n", 1),
            ("x" * 81, 0), ("a " + "x" * 81, 1), ("a {x}", 1), ("a _", 1), ("a " * 100 + "B", 100), ("a " * 99, 99),
        ):
            self.bad(read_line, text, number)

    def test_too_many_words(self):
        self.assertEqual(read_line(" ".join("a" * 80)), ("a",) * 80)
        self.refuses(BadLine, (), read_line, " ".join("a" * 81))

    def test_what_is_no_line(self):
        for line, place in ((["a"], ()), (("a",) * 81, ()), (("a", "A"), (1,)), ((("", "x"),), (0,)), (None, ())):
            self.refuses(BadLine, place, line_text, line)
        for thing in samples.odd_things():
            self.refuses(BadLine, (), line_text, thing)
            self.refuses(BadLine, (1,), line_text, ("a", thing, thing))


class FormTests(TextTests):
    def test_texts(self):
        for form, text in (
            ((), ""), (("", ("", "x"), ("", "x")), "'' {x} {x}"), ((("-c", "abc"), "--"), "-c{abc} --"),
            ((("x" * 80, "abcdefgh"),) * 20, " ".join(["x" * 80 + "{abcdefgh}"] * 20)), ((("--a=", "y"),), "--a={y}"),
        ):
            self.assertEqual(form_text(form), text)
            self.assertEqual(read_form(text), form)

    def test_drawn_forms_are_read_back(self):
        draw = Random(28)
        for _ in range(300):
            form = drawn.draw_form(draw, drawn.draw_grammar(draw), draw.randrange(4))
            self.assertEqual(read_form(form_text(form)), form)

    def test_what_is_no_text(self):
        for text, number in (
            (" ", 0), ("{x} ", 1), (" {x}", 0), ("a  {x}", 1), ("{}", 0), ("{x", 0), ("x}", 0), ("a {xy", 1), ("-c{xyz", 0), ("a {abcdefghi}", 1),
            ("{X}", 0), ("{x1}", 0), ("{x}a", 0), ("{x}}", 0), ("{{x}}", 0), ("{x}{y}", 0), ("''{x}", 0), ("A{x}", 0),
            ("{x}\n", 0), ("a {x\n}", 1), ("x" * 81 + "{x}", 0), ("a ''' {x}", 1), ("{'' }", 0), ("{x} " * 30 + "B", 30),
        ):
            self.bad(read_form, text, number)

    def test_too_many_pieces(self):
        self.assertEqual(len(read_form(" ".join(["{x}"] * 20))), 20)
        self.refuses(BadForm, (), read_form, " ".join(["{x}"] * 21))

    def test_what_is_no_form(self):
        for form, place in ((["a"], ()), (("a",) * 21, ()), (("a", ("", "X")), (1,)), (None, ())):
            self.refuses(BadForm, place, form_text, form)
        for thing in samples.odd_things():
            self.refuses(BadForm, (), form_text, thing)
            self.refuses(BadForm, (1,), form_text, ("a", thing, thing))


class GrammarTests(TextTests):
    def test_texts(self):
        for one, text in (
            (EXAMPLE, EXAMPLE_TEXT), (grammar((), (), samples.OFF), "modes"), (grammar(), "modes short mixed minus"),
            (grammar([("a-b", "5", "maybe")], [("a-b", "one"), ("to", "may")], (False, True, False)),
             "option a-b 5 maybe\nplace a-b one\nplace to may\nmodes mixed"),
            (grammar((), [("to", "may")], (True, False, True)), "place to may\nmodes short minus"),
        ):
            self.assertEqual(grammar_text(one), text)
            self.assertEqual(read_grammar(text), one)

    def test_all_modes(self):
        for modes in samples.ALL_MODES:
            text = grammar_text(grammar((), (), modes))
            self.assertEqual(text, " ".join(["modes"] + [n for n, on in zip(("short", "mixed", "minus"), modes) if on]))
            self.assertEqual(read_grammar(text), grammar((), (), modes))

    def test_grammars_are_read_back(self):
        draw = Random(29)
        for one in pool.grammars() + [drawn.draw_grammar(draw) for _ in range(200)]:
            self.assertEqual(read_grammar(grammar_text(one)), one)
        full = grammar(samples.many_options(24), samples.many_places(5))
        self.assertEqual(read_grammar(grammar_text(full)), full)

    def test_rows_that_cannot_stand(self):
        for text, number in (
            ("", 0), ("\n", 0), (" ", 0), ("modes ", 0), (" modes", 0), ("modes  short", 0), ("modes mixed short", 0),
            ("modes short short", 0), ("modes long", 0), ("mode", 0), ("Modes", 0), ("modes\n", 1), ("modes\nmodes", 1),
            ("modes short\nplace to one", 1), ("modes\noption ab - flag", 1), ("\nmodes", 0), ("place to one\n\nmodes", 1),
            ("place to one\noption ab - flag\nmodes", 1), ("option ab - flag\nplace to\nmodes", 1), ("option", 0),
            ("option ab  flag\nmodes", 0), ("option ab flag\nmodes", 0), ("option ab - flag \nmodes", 0),
            (" option ab - flag\nmodes", 0), ("option  ab - flag\nmodes", 0), ("option ab - Flag\nmodes", 0),
            ("option ab -- flag\nmodes", 0), ("option ab ab flag\nmodes", 0), ("option ab A flag\nmodes", 0),
            ("option a - flag\nmodes", 0), ("option abcdefghijklm - flag\nmodes", 0), ("option ab- - flag\nmodes", 0),
            ("option ab - flag\noption cd - flags\nmodes", 1), ("place to one more\nmodes", 0), ("place to  one\nmodes", 0),
            ("place to ones\nmodes", 0), ("place T one\nmodes", 0), ("place to one \nmodes", 0), ("option ab '' flag\nmodes", 0),
            ("place to one\nplace a\nmodes long", 1), (EXAMPLE_TEXT + "\n", 5), (EXAMPLE_TEXT + "\n" + EXAMPLE_TEXT, 5),
            ("options ab - flag\nmodes", 0), ("option ab \n flag\nmodes", 0), ("short", 0), ("modes\n\n", 1),
        ):
            self.bad(read_grammar, text, number)

    def test_without_the_row_of_modes(self):
        for text, rows in (("option ab - flag", 1), ("place to one", 1), (EXAMPLE_TEXT.rpartition("\n")[0], 4)):
            self.bad(read_grammar, text, rows)
            self.bad(read_grammar, text + "\n", rows)

    def test_what_is_left_to_bad_grammar(self):
        modes = "\nmodes short"
        for text, place in (
            ("option ab - flag\noption ab a last" + modes, ("options", 1)),
            ("option ab a flag\noption cd - flag\noption ef a last" + modes, ("options", 2)),
            ("\n".join(f"option a{sign} - flag" for sign in samples.LETTERS[:25]) + modes, ("options",)),
            ("place to one\nplace to may" + modes, ("places", 1)),
            ("place to many\nplace as one\nplace by many" + modes, ("places", 2)),
            ("\n".join(f"place a{sign} one" for sign in "abcdef") + modes, ("places",)),
            ("option ab - flag\noption ab - flag\nplace to one\nplace to one" + modes, ("options", 1)),
        ):
            self.refuses(BadGrammar, place, read_grammar, text)
            self.bad(read_grammar, text + "\n", text.count("\n") + 1)
            self.bad(read_grammar, "x\n" + text, 0)
        self.bad(read_grammar, "option ab - flag\noption ab - flag", 2)

    def test_what_is_no_grammar(self):
        for one, place in (((), ()), (((), (), None), ("modes",)), (EXAMPLE[:2], ()), ((None, (), None), ("options",))):
            self.refuses(BadGrammar, place, grammar_text, one)
        for thing in samples.odd_things():
            self.refuses(BadGrammar, (), grammar_text, thing)


class OddTests(TextTests):
    def test_what_is_no_string(self):
        for call in (read_line, read_form, read_grammar):
            for thing in samples.odd_things() + samples.odd_tuples() + [("modes",), [EXAMPLE_TEXT]]:
                self.bad(call, thing)


if __name__ == "__main__":
    unittest.main()
