"""Promise [27]: versions, scripts and their states, deeds that are undone, and trials."""

import unittest
from random import Random

import drawn
import samples
from keptlines.errors import BadForm, BadGrammar, BadQuestion, Missing, Parts
from keptlines.forms import form_lasts, form_size, is_sure, mended_lasting, shape
from keptlines.grammars import with_options
from keptlines.keeping import keeps, oldest
from keptlines.reading import meaning
from keptlines.releases import Releases, under
from keptlines.words import size
from samples import EXAMPLE, grammar

MANY = (("file", "many"),)
X, Y = ("", "x"), ("", "y")
OLD = grammar([("color", "c", "once"), ("copy", "", "flag")], MANY)
LATER = grammar([("color", "c", "last"), ("copy", "", "flag")], MANY)
WIDER = with_options(LATER, (("force", "f", "flag"),))
OTHER = with_options(OLD, (("colors", "", "flag"),))


class ReleasesTests(unittest.TestCase):
    def refuses(self, error, call, *arguments, place=None):
        with self.assertRaises(error, msg=samples.show(arguments)) as caught:
            call(*arguments)
        self.assertIs(caught.exception.__class__, error)
        if place is not None:
            self.assertEqual(caught.exception.place, place)
        return caught.exception

    def misses(self, call, thing):
        self.assertIs(self.refuses(Missing, call, thing).name, thing)

    def all_of(self, releases):
        """All that can be seen of the releases."""
        return ([releases[n] for n in range(len(releases))], releases.last, releases.kept_from(), releases.states(),
                {name: releases.form(name) for name in releases.names()})


class VersionTests(ReleasesTests):
    def test_version_0(self):
        releases = Releases(OLD)
        self.assertEqual(self.all_of(releases), ([OLD], OLD, 0, {}, {}))
        self.assertEqual(len(releases), 1)
        self.assertEqual(releases.names(), ())

    def test_release_and_force(self):
        releases = Releases(OLD)
        for number, (deed, one) in enumerate((
            (releases.release, OLD), (releases.release, LATER), (releases.release, WIDER), (releases.force, OLD),
            (releases.force, OTHER), (releases.release, OTHER),
        ), 1):
            told = deed(one)
            self.assertEqual(told, number)
            self.assertIs(told.__class__, int)
            self.assertEqual(len(releases), number + 1)
            self.assertEqual((releases[number], releases.last), (one, one))
        self.assertEqual([releases[n] for n in range(7)], [OLD, OLD, LATER, WIDER, OLD, OTHER, OTHER])

    def test_what_does_not_keep_the_last_version(self):
        releases = Releases(OLD)
        releases.release(LATER)
        for one in (OLD, OTHER, grammar(), with_options(LATER, (("cop", "", "flag"),))):
            line = self.refuses(Parts, releases.release, one).line
            self.assertNotEqual(meaning(LATER, line), meaning(one, line))
            self.assertIsNotNone(meaning(LATER, line))
            self.assertEqual(self.all_of(releases), ([OLD, LATER], LATER, 0, {}, {}))
        self.assertEqual(size(self.refuses(Parts, releases.release, OLD).line), 8)
        self.assertEqual(self.refuses(Parts, Releases(OLD).release, grammar((), [("to", "one")])).line, ())

    def test_kept_from(self):
        releases = Releases(OLD)
        for deed, one, least in (
            (releases.release, LATER, 0), (releases.force, OTHER, 2), (releases.force, LATER, 3), (releases.force, OLD, 4),
            (releases.release, LATER, 3), (releases.release, WIDER, 3), (releases.force, grammar(), 7),
        ):
            deed(one)
            self.assertEqual(releases.kept_from(), least)
            self.assertEqual(oldest(tuple(releases[n] for n in range(len(releases)))), least)
            self.assertIs(releases.kept_from().__class__, int)

    def test_versions_that_are_missing(self):
        releases = Releases(OLD)
        releases.release(OLD)
        self.assertEqual(releases[1], OLD)
        things = samples.odd_things() + samples.odd_tuples() + [-1, -2, 2, 3, "0", "", slice(0, 1), 10 ** 60, ()]
        for thing in things:
            if not (thing.__class__ is int and 0 <= thing <= 1):
                self.misses(releases.__getitem__, thing)
        with self.assertRaises(Missing) as caught:
            releases[True]
        self.assertIs(caught.exception.name, True)
        self.assertRaises(TypeError, iter, releases)

    def test_what_is_no_grammar(self):
        releases = Releases(OLD)
        for thing, place in [(((), (), None), ("modes",)), (OLD[:2], ()), ((None, (), ()), ("options",))] + [
                (thing, ()) for thing in samples.odd_things()]:
            for call in (Releases, releases.release, releases.force):
                self.refuses(BadGrammar, call, thing, place=place)
        self.assertEqual(self.all_of(releases), ([OLD], OLD, 0, {}, {}))
        self.assertIs(releases.undo(), False)


class ScriptTests(ReleasesTests):
    def test_scripts(self):
        releases = Releases(OLD)
        for name, form, state in (("b", (X,), "doubtful"), ("abcdefgh", ("--col=a",), "sure"), ("a", ("--copy",), "lasts"),
                                  ("c", (), "lasts")):
            self.assertIsNone(releases.put(name, form))
            self.assertEqual(releases.form(name), form)
            self.assertEqual(releases.state(name), state)
        self.assertEqual(releases.names(), ("a", "abcdefgh", "b", "c"))
        self.assertEqual(list(releases.states().items()), [("a", "lasts"), ("abcdefgh", "sure"), ("b", "doubtful"), ("c", "lasts")])
        self.assertIsNone(releases.put("b", ("--", X)))
        self.assertEqual((releases.form("b"), releases.state("b")), (("--", X), "lasts"))
        self.assertIsNone(releases.forget("abcdefgh"))
        self.assertEqual(releases.names(), ("a", "b", "c"))
        self.misses(releases.form, "abcdefgh")
        releases.states().clear()
        self.assertEqual(len(releases.states()), 3)

    def test_states_when_versions_come(self):
        releases = Releases(OLD)
        forms = {"long": ("--color=", "a"), "whole": (("--color=", "x"),), "short": (("--col=", "x"),), "bare": (("-c", "x"),),
                 "flag": ("--cop",), "hole": (X,), "safe": ("--", X)}
        for name in ("whole", "short", "bare", "flag", "hole", "safe"):
            releases.put(name, forms[name])
        wanted = {"bare": "doubtful", "flag": "sure", "hole": "doubtful", "safe": "lasts", "short": "sure", "whole": "lasts"}
        self.assertEqual(releases.states(), wanted)
        releases.release(LATER)
        releases.release(WIDER)
        self.assertEqual(releases.states(), wanted)
        releases.force(with_options(WIDER, (("coll", "", "flag"),)))
        self.assertEqual(releases.states(), {**wanted, "short": "broken"})
        releases.force(grammar([("color", "c", "all"), ("cops", "", "flag")], MANY))
        self.assertEqual(releases.states(), {"bare": "broken", "flag": "broken", "hole": "doubtful", "safe": "lasts",
                                             "short": "broken", "whole": "broken"})
        releases.force(grammar(OLD[0], (("file", "many"),), (True, False, True)))
        self.assertEqual(releases.states(), wanted)
        releases.force(grammar())
        self.assertEqual(set(releases.states().values()), {"broken"})
        self.assertEqual(list(releases.states()), sorted(wanted))

    def test_a_script_is_kept_with_the_shape_it_had(self):
        releases = Releases(OLD)
        releases.put("a", ("--cop",))
        releases.force(grammar([("copies", "", "flag")], MANY))
        self.assertEqual(shape(releases.last, ("--cop",)), ((("copies", 1),), ()))
        self.assertEqual(releases.state("a"), "broken")
        releases.put("a", ("--cop",))
        self.assertEqual(releases.state("a"), "sure")
        releases.force(OLD)
        self.assertEqual(releases.state("a"), "broken")
        releases.undo()
        releases.undo()
        self.assertEqual(releases.state("a"), "broken")
        releases.undo()
        self.assertEqual(releases.state("a"), "sure")

    def test_one_that_gets_a_value_twice(self):
        # The new version keeps the LINE's MEANING, but [22] lets no OPTION that may have a value be given twice.
        releases = Releases(grammar([("ab", "", "flag")]))
        releases.put("a", ("--ab", "--ab"))
        releases.release(grammar([("ab", "", "maybe")]))
        self.assertEqual(releases.state("a"), "broken")

    def test_mend(self):
        releases = Releases(OLD)
        for name, form, better in (
            ("a", (X, ("--col=", "y")), ("-c", Y, "--", X)), ("b", ("--cop",), ("--copy",)), ("c", (), ()),
            ("d", ("-5", "--cop"), ("--copy", "--", "-5")), ("e", (("-c", "x"),), ("-c", X)),
        ):
            releases.put(name, form)
            told = releases.mend(name)
            self.assertEqual(form_size(told), form_size(better))
            self.assertEqual(shape(OLD, told), shape(OLD, form))
            self.assertTrue(form_lasts(OLD, told))
            self.assertEqual((releases.form(name), releases.state(name)), (told, "lasts"))

    def test_mend_by_the_last_version(self):
        releases = Releases(grammar([("color", "c", "once")], MANY))
        releases.put("a", (("--color=", "x"),))
        releases.force(grammar([("color", "", "once")], MANY))
        self.assertEqual(releases.mend("a"), (("--color=", "x"),))
        releases.force(grammar([("color", "c", "once")], MANY))
        self.assertEqual(releases.mend("a"), ("-c", X))
        self.assertEqual(releases.state("a"), "lasts")

    def test_what_cannot_be_mended(self):
        releases = Releases(OLD)
        releases.put("a", ("--cop",))
        releases.force(grammar([("copies", "", "flag")], MANY))
        before = self.all_of(releases)
        self.refuses(BadQuestion, releases.mend, "a")
        self.assertEqual(self.all_of(releases), before)
        names = [letter + "a" for letter in samples.LETTERS[:20]]
        long = Releases(grammar([(name, name[0], "last") for name in names] + [("zz", "z", "count")], MANY))
        long.put("a", tuple(("-" + name[0], "h") for name in names[:10]))
        self.assertEqual(len(long.mend("a")), 20)
        long.put("b", tuple(("-" + name[0], "h") for name in names[:10]) + ("a",))
        long.put("c", ("-" + "z" * 79, "-z"))
        before = self.all_of(long)
        for name in ("b", "c"):
            self.refuses(BadQuestion, long.mend, name)
            self.assertEqual(self.all_of(long), before)
        self.assertIs(long.undo(), True)
        self.assertEqual(long.names(), ("a", "b"))

    def test_names_of_scripts(self):
        releases = Releases(OLD)
        releases.put("a", ())
        before = self.all_of(releases)
        for name in ["", "abcdefghi", "A", "a1", "a-b", "a b", "a\n", ("a",), ["a"], *samples.odd_things()]:
            self.refuses(BadQuestion, releases.put, name, ())
            self.refuses(BadQuestion, releases.put, name, None)
            for call in (releases.form, releases.forget, releases.state, releases.mend):
                self.misses(call, name)
        for name in ("b", "aa", "abcdefgh"):
            for call in (releases.form, releases.forget, releases.state, releases.mend):
                self.misses(call, name)
        self.assertEqual(self.all_of(releases), before)
        self.assertIs(releases.undo(), True)
        self.assertIs(releases.undo(), False)

    def test_what_is_no_form(self):
        releases = Releases(OLD)
        for form, place in ((None, ()), (["a"], ()), (("a",) * 21, ()), (("a", ("", "X")), (1,)), ((None, None), (0,))):
            self.refuses(BadForm, releases.put, "a", form, place=place)
        for thing in samples.odd_things():
            self.refuses(BadForm, releases.put, "a", thing, place=())
            self.refuses(BadForm, releases.put, "a", ("", thing), place=(1,))
        for form in (("--co",), ("-x",), (("-", "x"),), ("--color=a", "--color=b")):
            self.refuses(BadQuestion, releases.put, "a", form)
        self.assertEqual(self.all_of(releases), ([OLD], OLD, 0, {}, {}))
        self.assertIs(releases.undo(), False)


class UndoTests(ReleasesTests):
    def test_each_deed(self):
        releases = Releases(OLD)
        deeds = (
            lambda: releases.put("a", ("--cop",)), lambda: releases.put("b", (X,)), lambda: releases.put("a", ("--col=", )),
            lambda: releases.mend("b"), lambda: releases.release(LATER), lambda: releases.mend("a"),
            lambda: releases.forget("b"), lambda: releases.force(OLD), lambda: releases.force(OLD),
            lambda: releases.put("a", ()), lambda: releases.mend("a"), lambda: releases.forget("a"),
        )
        seen = [self.all_of(releases)]
        for deed in deeds:
            deed()
            seen.append(self.all_of(releases))
        for wanted in reversed(seen[:-1]):
            self.assertNotEqual(wanted, None)
            self.assertIs(releases.undo(), True)
            self.assertEqual(self.all_of(releases), wanted)
        for _ in range(3):
            self.assertIs(releases.undo(), False)
            self.assertEqual(self.all_of(releases), seen[0])

    def test_a_refused_deed_is_none(self):
        releases = Releases(OLD)
        releases.put("a", ("--cop",))
        for error, call, *arguments in (
            (Parts, releases.release, grammar()), (BadGrammar, releases.force, None), (BadGrammar, releases.release, None),
            (BadQuestion, releases.put, "a", ("-x",)), (BadForm, releases.put, "a", None), (BadQuestion, releases.put, "", ()),
            (Missing, releases.forget, "b"), (Missing, releases.mend, "b"),
        ):
            self.refuses(error, call, *arguments)
        self.assertIs(releases.undo(), True)
        self.assertEqual(releases.names(), ())

    def test_drawn_deeds(self):
        draw = Random(27)
        for _ in range(25):
            first = drawn.draw_grammar(draw)
            releases, seen = Releases(first), []
            for _ in range(40):
                self.draw_deed(draw, releases, seen)
            while seen:
                self.assertIs(releases.undo(), True)
                self.assertEqual(self.all_of(releases), seen.pop())
            self.assertIs(releases.undo(), False)
            self.assertEqual(self.all_of(releases), ([first], first, 0, {}, {}))

    def draw_deed(self, draw, releases, seen):
        before = self.all_of(releases)
        name, what = draw.choice("abc"), draw.randrange(6)
        try:
            if what == 0:
                releases.release(drawn.changed_grammar(draw, releases.last))
            elif what == 1:
                releases.force(drawn.changed_grammar(draw, releases.last))
            elif what == 2:
                releases.forget(name)
            elif what == 3:
                wanted = mended_lasting(releases.last, releases.form(name)) if name in releases.names() else None
                state = releases.state(name)
                told = releases.mend(name)
                self.assertEqual((told, releases.state(name), state == "broken"), (wanted, "lasts", False))
            else:
                releases.put(name, drawn.draw_form(draw, releases.last, draw.randrange(3)))
        except (Parts, Missing, BadQuestion):
            self.assertEqual(self.all_of(releases), before)
            return
        seen.append(before)
        if what == 0:
            self.assertTrue(keeps(before[1], releases.last))
        for script in releases.names():
            state, form = releases.state(script), releases.form(script)
            self.assertIn(state, ("lasts", "sure", "doubtful", "broken"))
            if state != "broken":
                self.assertIs(form_lasts(releases.last, form), state == "lasts")
                self.assertIs(is_sure(releases.last, form), state in ("lasts", "sure"))
                self.assertIsNotNone(shape(releases.last, form))


class TrialTests(ReleasesTests):
    def test_all_is_as_it_was(self):
        releases = Releases(OLD)
        releases.put("a", ("--cop",))
        before = self.all_of(releases)
        with releases.trial() as one:
            self.assertIs(one, releases)
            one.release(LATER)
            one.put("b", (X,))
            one.put("a", ())
            self.assertEqual(one.names(), ("a", "b"))
        self.assertEqual(self.all_of(releases), before)
        self.assertIs(releases.undo(), True)
        self.assertEqual(releases.names(), ())
        self.assertIs(releases.undo(), False)

    def test_deeds_that_are_undone_inside(self):
        releases = Releases(OLD)
        releases.put("a", ("--cop",))
        with releases.trial():
            self.assertIs(releases.undo(), True)
            self.assertIs(releases.undo(), False)
            releases.put("c", ())
        self.assertEqual(releases.names(), ("a",))
        self.assertIs(releases.undo(), True)
        self.assertIs(releases.undo(), False)

    def test_trials_within_trials(self):
        releases = Releases(OLD)
        with releases.trial() as one:
            one.put("a", ())
            with one.trial() as other:
                self.assertIs(other, releases)
                other.put("b", ())
                other.force(grammar())
                with other.trial():
                    releases.undo()
                    releases.undo()
                    releases.undo()
                    self.assertEqual(self.all_of(releases), ([OLD], OLD, 0, {}, {}))
                self.assertEqual((len(releases), releases.names()), (2, ("a", "b")))
            self.assertEqual((len(releases), releases.names()), (1, ("a",)))
        self.assertEqual(self.all_of(releases), ([OLD], OLD, 0, {}, {}))

    def test_an_error_goes_on(self):
        releases = Releases(OLD)
        for error, deed in ((Parts, lambda one: one.release(grammar())), (Missing, lambda one: one.forget("b")),
                            (ZeroDivisionError, lambda one: 1 // 0)):
            with self.assertRaises(error):
                with releases.trial() as one:
                    one.put("a", ())
                    with one.trial():
                        one.put("c", ())
                        deed(one)
            self.assertEqual(self.all_of(releases), ([OLD], OLD, 0, {}, {}))
            self.assertIs(releases.undo(), False)

    def test_what_was_done_ahead_of_the_block_stays(self):
        releases = Releases(OLD)
        trial = releases.trial()
        releases.put("a", ())
        with trial:
            releases.put("b", ())
        self.assertEqual(releases.names(), ("a",))

    def test_under(self):
        releases = Releases(OLD)
        self.assertEqual(under(releases.trial(), lambda one: one.release(LATER)), 1)
        self.assertIsNone(under(releases.trial(), lambda one: one.put("a", ())))
        self.assertIs(under(releases.trial(), lambda one: one), releases)
        self.assertEqual(under(releases.trial(), lambda one: under(one.trial(), lambda two: two.force(OLD) + len(one))), 3)
        self.refuses(Missing, under, releases.trial(), lambda one: one.form("b"))
        self.assertEqual(self.all_of(releases), ([OLD], OLD, 0, {}, {}))


class EqualTests(ReleasesTests):
    def test_equal_ones(self):
        one, other = Releases(OLD), Releases(OLD)
        self.assertIs(one == other, True)
        self.assertIs(one != other, False)
        one.put("a", ("--cop",))
        self.assertIs(one == other, False)
        other.put("b", ())
        other.put("a", ("--cop",))
        self.assertIs(other == one, False)
        one.put("b", ())
        self.assertIs(one == other, True)
        one.release(LATER)
        self.assertIs(one == other, False)
        one.undo()
        one.forget("b")
        other.forget("b")
        self.assertIs(one == other, True)

    def test_deeds_that_were_undone_do_not_count(self):
        one, other = Releases(OLD), Releases(OLD)
        one.force(LATER)
        one.undo()
        self.assertIs(one == other, True)
        self.assertIs(one.undo(), False)

    def test_the_same_forms_with_unlike_shapes(self):
        one, other = Releases(OLD), Releases(OLD)
        unlike = grammar([("copies", "", "flag")], MANY)
        one.put("a", ("--cop",))
        one.force(unlike)
        other.force(unlike)
        other.put("a", ("--cop",))
        self.assertIs(one == other, False)
        one.put("a", ("--cop",))
        self.assertIs(one == other, True)

    def test_other_versions(self):
        one, other = Releases(OLD), Releases(LATER)
        self.assertIs(one == other, False)
        one.force(LATER)
        other.force(OLD)
        self.assertIs(one == other, False)
        other.force(LATER)
        self.assertIs(one == other, False)

    def test_other_kinds(self):
        one = Releases(OLD)
        for thing in [*samples.odd_things(), *samples.odd_tuples(), OLD, (OLD,), [OLD], "", one.trial()]:
            self.assertIs(one == thing, False)


if __name__ == "__main__":
    unittest.main()
