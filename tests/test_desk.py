"""The desk: what is said to it, and what it answers."""

import unittest
from random import Random

import drawn
import samples
from keptlines.desk import Desk
from keptlines.errors import BadGrammar, BadText
from keptlines.forms import form_lasts, harms, shape
from keptlines.reading import meaning
from keptlines.releases import Releases
from keptlines.texts import form_text, grammar_text, line_text, read_form, read_line
from samples import EXAMPLE, grammar

TEXT = grammar_text(EXAMPLE)
MANY = (("file", "many"),)


class DeskTests(unittest.TestCase):
    def says(self, desk, *rows):
        """Each line is answered with this text."""
        for line, wanted in rows:
            told = desk.say(line)
            self.assertIs(told.__class__, str)
            self.assertEqual(told, wanted, samples.show(line))

    def seen(self, desk):
        """All that can be seen of the desk."""
        releases = desk.releases
        return ([releases[n] for n in range(len(releases))], desk.say("draft"), releases.states(),
                [releases.form(name) for name in releases.names()])

    def refused(self, desk, *lines):
        """Each of these lines is none, or its deed is refused, and nothing changes."""
        before = self.seen(desk)
        for line in lines:
            self.says(desk, (line, "no"))
            self.assertEqual(self.seen(desk), before, samples.show(line))


class MakingTests(DeskTests):
    def test_a_desk(self):
        desk = Desk(TEXT)
        self.assertIsInstance(desk.releases, Releases)
        self.assertEqual(desk.releases.last, EXAMPLE)
        self.assertEqual(len(desk.releases), 1)
        self.says(desk, ("draft", TEXT), ("undo", "nothing"))

    def test_what_is_no_text_of_a_grammar(self):
        for text, error, place in (
            ("", BadText, (0,)), (TEXT + "\n", BadText, (5,)), ("option ab - flag", BadText, (1,)), (None, BadText, ()),
            ("place to one\nplace to one\nmodes", BadGrammar, ("places", 1)), (EXAMPLE, BadText, ()),
        ):
            with self.assertRaises(error) as caught:
                Desk(text)
            self.assertEqual(caught.exception.place, place)
        for thing in samples.odd_things():
            with self.assertRaises(BadText) as caught:
                Desk(thing)
            self.assertEqual(caught.exception.place, ())


class DraftTests(DeskTests):
    def test_wish_and_drop(self):
        desk = Desk("modes short")
        self.says(desk, ("wish ab - flag", "done"), ("wish cd c once", "done"), ("wish ef 5 maybe", "done"),
                  ("draft", "option ab - flag\noption cd c once\noption ef 5 maybe\nmodes short"),
                  ("drop cd", "done"), ("draft", "option ab - flag\noption ef 5 maybe\nmodes short"),
                  ("wish cd - all", "done"), ("draft", "option ab - flag\noption ef 5 maybe\noption cd - all\nmodes short"))
        self.assertEqual(desk.releases.last, grammar((), (), (True, False, False)))
        self.assertEqual(len(desk.releases), 1)

    def test_they_are_no_deeds_that_are_undone_one_by_one(self):
        desk = Desk(TEXT)
        self.says(desk, ("wish ab - flag", "done"), ("drop copy", "done"), ("undo", "nothing"), ("draft", TEXT))
        self.says(desk, ("put a", "lasts"), ("wish ab - flag", "done"), ("undo", "done"), ("draft", TEXT))
        self.assertEqual(desk.releases.names(), ())

    def test_what_the_draft_cannot_get_or_lose(self):
        desk = Desk(TEXT)
        self.refused(desk, "wish color - flag", "wish ab c flag", "wish", "wish ", "wish ab", "wish ab -", "wish ab - flags",
                     "wish ab  flag", "wish ab '' flag", "wish  ab - flag", "wish ab - flag ", "wish ab - flag\n",
                     "wish a - flag", "wish option ab - flag", "wish ab A flag", "wish ab - flag x", "wish ab -- flag",
                     "drop", "drop ", "drop ab", "drop col", "drop color ", "drop  color", "drop color copy", "drop\ncolor")

    def test_no_more_than_24_options(self):
        desk = Desk(grammar_text(grammar(samples.many_options(24))))
        self.refused(desk, "wish ab - flag")
        self.says(desk, ("drop op-a", "done"), ("wish ab - flag", "done"))
        self.refused(desk, "wish cd - flag")


class ReleaseTests(DeskTests):
    def test_release(self):
        desk = Desk(TEXT)
        self.says(desk, ("release", "version 1"), ("wish zz z flag", "done"), ("release", "version 2"),
                  ("draft", TEXT.replace("place", "option zz z flag\nplace")))
        self.assertEqual(desk.releases.last[0][-1], ("zz", "z", "flag"))

    def test_parts(self):
        desk = Desk(TEXT)
        self.says(desk, ("wish cops - flag", "done"))
        told = desk.say("release")
        self.assertTrue(told.startswith("parts "), told)
        line = read_line(told.partition(" ")[2])
        self.assertEqual(meaning(EXAMPLE, line), ((("copy", 1),), ()))
        self.assertEqual(line_text(line), "--cop")
        self.assertEqual(len(desk.releases), 1)
        self.says(desk, ("draft", TEXT.replace("place", "option cops - flag\nplace")), ("force", "version 1"),
                  ("release", "version 2"), ("undo", "done"), ("undo", "done"), ("undo", "nothing"), ("draft", TEXT))

    def test_parts_with_an_empty_line_and_an_empty_word(self):
        desk = Desk("place to may\nmodes")
        desk.releases.force(grammar((), [("as", "may")], samples.OFF))
        self.says(desk, ("release", "parts ''"), ("draft", "place to may\nmodes"), ("undo", "done"), ("release", "version 1"))
        other = Desk("place to one\nmodes")
        other.releases.force(grammar((), (), samples.OFF))
        self.says(other, ("release", "parts"), ("draft", "place to one\nmodes"), ("force", "version 2"))

    def test_lasts(self):
        desk = Desk(TEXT)
        self.says(desk, ("lasts --color=a", "lasts"), ("lasts --col=a", "breaks"), ("lasts --co", "refused"),
                  ("lasts -5", "breaks"), ("lasts -- -5", "lasts"), ("lasts ''", "lasts"), ("lasts -c", "refused"),
                  ("lasts -c ''", "lasts"), ("lasts", "lasts"), ("lasts ", "lasts"))
        self.says(desk, ("drop color", "done"), ("lasts -c ''", "lasts"), ("force", "version 1"), ("lasts -c ''", "refused"))
        self.refused(desk, "lasts  ", "lasts a ", "lasts  a", "lasts {x}", "lasts A", "lasts a\n", "lasts\n", "lasts " + "x" * 81,
                     "lasts " + "a " * 80 + "a")
        self.says(Desk("place to one\nmodes"), ("lasts", "refused"), ("lasts ", "refused"), ("lasts ''", "lasts"))


class ScriptTests(DeskTests):
    def test_scripts(self):
        desk = Desk(TEXT)
        self.says(desk, ("put a --col={x} {y}", "doubtful"), ("state a", "doubtful"), ("harm a", "copy verbose"),
                  ("mend a", "-c {x} -- {y}"), ("state a", "lasts"), ("harm a", "none"), ("undo", "done"),
                  ("state a", "doubtful"), ("put b --cop", "sure"), ("mend b", "--copy"), ("put c -v ''", "lasts"))
        self.assertEqual(desk.releases.form("c"), ("-v", ""))
        self.assertEqual(desk.releases.names(), ("a", "b", "c"))

    def test_the_empty_form(self):
        for line in ("put a", "put a "):
            desk = Desk(TEXT)
            self.says(desk, (line, "lasts"), ("state a", "lasts"), ("harm a", "none"), ("mend a", ""))
            self.assertEqual(desk.releases.form("a"), ())

    def test_a_broken_one(self):
        desk = Desk(TEXT)
        self.says(desk, ("put a --cop {x}", "doubtful"), ("wish cops - flag", "done"), ("force", "version 1"),
                  ("state a", "broken"))
        self.refused(desk, "mend a", "harm a")
        self.says(desk, ("undo", "done"), ("state a", "doubtful"), ("drop copy", "done"), ("wish copse - flag", "done"),
                  ("force", "version 1"), ("state a", "broken"), ("harm a", "color verbose"))
        self.refused(desk, "mend a")

    def test_what_is_refused(self):
        desk = Desk(TEXT)
        desk.say("put a {x} {y} {z}")
        desk.say("put b {x} {x}")
        self.refused(desk, "put", "put ", "put  a", "put A", "put abcdefghi a", "put c  ", "put c a ", "put c {X}", "put c --co",
                     "put c {x}\n", "put c\n", "put c " + "a " * 20 + "a", "put c -{x}", "mend", "mend ", "mend c", "mend a ",
                     "mend a b", "state", "state c", "state a ", "state  a", "state A", "harm", "harm c", "harm a", "harm b",
                     "harm a b", "harm\na")

    def test_forms_that_are_too_long(self):
        desk = Desk("\n".join(f"option {sign}a {sign} last" for sign in samples.LETTERS[:20]) + "\nmodes")
        text = " ".join(f"-{sign}" + "{x}" for sign in samples.LETTERS[:11])
        self.says(desk, ("put a " + text, "doubtful"))
        self.refused(desk, "mend a")


class OddTests(DeskTests):
    def test_lines_that_are_none(self):
        desk = Desk(TEXT)
        desk.say("put a {x}")
        desk.say("wish ab - flag")
        self.refused(desk, "", " ", "\n", "Draft", "draft ", " draft", "draft\n", "draft x", "release ", "release x", "force ",
                     "force 1", " force", "no", "done", "parts", "trial", "say", "releases", "forget a", "form a", "names",
                     "undone", "undo x", "WISH ab - flag", "wish\nab - flag", "put\na", "last", "option ab - flag", "''")
        self.refused(desk, "undo ", "undo\n")
        self.refused(desk, *samples.odd_things(), *samples.odd_tuples(), ("draft",), ["draft"], b"draft")

    def test_drawn_lines(self):
        draw, answers = Random(30), {}
        words = ("wish", "drop", "draft", "release", "force", "lasts", "put", "mend", "state", "harm", "undo")
        for _ in range(40):
            desk = Desk(grammar_text(drawn.draw_grammar(draw)))
            for _ in range(60):
                word, name = draw.choice(words), draw.choice("ab")
                last = desk.releases.last
                form = drawn.draw_form(draw, last, draw.randrange(3))
                option = draw.choice(drawn.NAMES) + " " + draw.choice("-ab5") + " " + draw.choice(("flag", "last"))
                line = " ".join([word] + {"wish": [option], "drop": [draw.choice(drawn.NAMES)], "put": [name, form_text(form)],
                                          "lasts": [form_text(form)], "mend": [name], "state": [name], "harm": [name],
                                          }.get(word, []))
                before = self.seen(desk)
                told = desk.say(line)
                answers[word, told.partition(" ")[0]] = True
                if told == "no" or word in ("draft", "lasts", "state", "harm"):
                    self.assertEqual(self.seen(desk), before)
                self.check(desk, word, name, form, told, last)
        self.assertGreater(len(answers), 35)

    def check(self, desk, word, name, form, told, last):
        releases = desk.releases
        if word == "put" and told != "no":
            self.assertEqual((releases.form(name), releases.state(name)), (form, told))
        elif word == "mend" and told != "no":
            self.assertEqual(read_form(told), releases.form(name))
            self.assertTrue(form_lasts(last, releases.form(name)))
        elif word == "harm" and told not in ("no", "none"):
            self.assertEqual(told.split(" "), list(harms(last, releases.form(name))))
        elif word == "state" and told != "no":
            self.assertEqual(told, releases.state(name))
        elif word in ("release", "force") and told.startswith("version"):
            self.assertEqual(told, "version " + str(len(releases) - 1))
            self.assertEqual(grammar_text(releases.last), desk.say("draft"))
        elif word == "undo":
            self.assertEqual(grammar_text(releases.last), desk.say("draft"))
        if word == "put" and told == "no":
            self.assertIsNone(shape(last, form))


if __name__ == "__main__":
    unittest.main()
