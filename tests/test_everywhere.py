"""Promise [1], what holds everywhere, and the interface of the parts that have landed."""

import ast
import inspect
import unittest
from importlib import import_module
from pathlib import Path

import samples
from keptlines import (
    desk, errors, forms, grammars, keeping, lasting, reading, releases, spelling, texts, wishes, words,
)
from samples import EXAMPLE, ON, grammar

PACKAGE = Path(__file__).resolve().parent.parent / "keptlines"

FUNCTIONS = {
    "words": {"is_word": ["thing"], "is_name": ["thing"], "need_line": ["thing"], "size": ["line"]},
    "grammars": {
        "need_grammar": ["thing"], "is_grammar": ["thing"], "tellings": ["grammar"],
        "numbers": ["grammar"], "with_options": ["grammar", "options"],
    },
    "reading": {"meaning": ["grammar", "line"], "lasts": ["grammar", "line"]},
    "keeping": {
        "keeps": ["old", "new"], "parted": ["old", "new"], "touchstones": ["old"],
        "are_alike": ["one", "other"], "keepers": ["grammars"], "oldest": ["grammars"],
    },
    "lasting": {"is_later": ["old", "new"], "breaker": ["grammar", "line"], "is_firm": ["grammar"]},
    "spelling": {
        "need_meaning": ["grammar", "thing"], "least": ["grammar", "meaning"],
        "least_lasting": ["grammar", "meaning"], "least_common": ["grammars", "meaning"],
    },
    "wishes": {
        "fits": ["grammar", "wishes"], "choice": ["grammar", "wishes"], "cover": ["grammar", "wishes"],
        "is_choice": ["grammar", "wishes", "thing"], "is_cover": ["grammar", "wishes", "thing"],
        "why_not": ["grammar", "wish"], "roots": ["grammar"], "least_name": ["grammar", "start"],
    },
    "forms": {
        "need_form": ["thing"], "holes": ["form"], "form_size": ["form"], "filled": ["form", "filling"],
        "shape": ["grammar", "form"], "is_sure": ["grammar", "form"], "form_lasts": ["grammar", "form"],
        "danger": ["grammar", "form"], "harms": ["grammar", "form"], "refusal": ["grammar", "form"],
        "mended": ["grammar", "form"], "mended_lasting": ["grammar", "form"],
    },
    "texts": {
        "line_text": ["line"], "form_text": ["form"], "grammar_text": ["grammar"], "read_line": ["text"],
        "read_form": ["text"], "read_grammar": ["text"],
    },
    "releases": {"under": ["manager", "deed"]},
}

METHODS = {
    releases.Releases: {
        "__init__": ["grammar"], "release": ["grammar"], "force": ["grammar"], "__len__": [], "__getitem__": ["number"],
        "kept_from": [], "put": ["name", "form"], "form": ["name"], "forget": ["name"], "state": ["name"], "mend": ["name"],
        "names": [], "states": [], "undo": [], "trial": [], "__eq__": ["other"],
    },
    desk.Desk: {"__init__": ["text"], "say": ["line"]},
}

FORM = ("-v", ("--col=", "x"), ("", "y"))

WISHES = (("aa", "a", "flag"), ("bb", "a", "last"), ("aa", "", "all"), ("vv", "", "flag"))

# Ordinary arguments of each function that takes a GRAMMAR, the first ones GRAMMARs.
CALLS = (
    (grammars.need_grammar, EXAMPLE), (grammars.tellings, EXAMPLE), (grammars.numbers, EXAMPLE),
    (grammars.with_options, EXAMPLE, WISHES[:1]),
    (reading.meaning, EXAMPLE, ("--v",)), (reading.lasts, EXAMPLE, ("--v",)),
    (keeping.keeps, EXAMPLE, grammar()), (keeping.parted, EXAMPLE, grammar()), (keeping.touchstones, EXAMPLE),
    (keeping.are_alike, EXAMPLE, EXAMPLE), (lasting.is_later, EXAMPLE, EXAMPLE),
    (lasting.breaker, EXAMPLE, ("--v",)), (lasting.is_firm, EXAMPLE),
    (spelling.need_meaning, EXAMPLE, ((), ())), (spelling.least, EXAMPLE, ((("verbose", 2),), ())),
    (spelling.least_lasting, EXAMPLE, ((("color", ""),), (("file", ("-5",)),))),
    (wishes.fits, EXAMPLE, WISHES), (wishes.choice, EXAMPLE, WISHES), (wishes.cover, EXAMPLE, WISHES),
    (wishes.is_choice, EXAMPLE, WISHES, (0,)), (wishes.is_cover, EXAMPLE, WISHES, (("aa",), ("a",))),
    (wishes.why_not, EXAMPLE, WISHES[3]), (wishes.roots, EXAMPLE), (wishes.least_name, EXAMPLE, "c"),
    (forms.shape, EXAMPLE, FORM), (forms.is_sure, EXAMPLE, FORM), (forms.form_lasts, EXAMPLE, FORM),
    (forms.danger, EXAMPLE, FORM), (forms.harms, EXAMPLE, FORM), (forms.refusal, EXAMPLE, FORM),
    (forms.mended, EXAMPLE, FORM), (forms.mended_lasting, EXAMPLE, FORM), (texts.grammar_text, EXAMPLE),
)

# Calls without a GRAMMAR.
OTHER_CALLS = (
    (forms.need_form, FORM), (forms.holes, FORM), (forms.form_size, FORM),
    (forms.filled, FORM, (("x", "a"), ("y", "--"))), (texts.line_text, ("", "a")), (texts.form_text, FORM),
    (texts.read_line, "'' a"), (texts.read_form, "-v {x} --col={y}"), (texts.read_grammar, "place to one\nmodes short"),
)

# Those that take a tuple of GRAMMARs, and what they take behind it.
ROW_CALLS = ((keeping.keepers,), (keeping.oldest,), (spelling.least_common, ((("verbose", 1),), ())))
ROW = (grammar(EXAMPLE[0]), EXAMPLE, EXAMPLE, grammar(EXAMPLE[0][:0]))

BAD_GRAMMARS = (
    ((None, None, None), ("options",)), ((samples.many_options(25), None, ON), ("options",)),
    ((WISHES, None, None), ("options", 1)), (((["ab", "", "flag"],), (), ON), ("options", 0)),
    ((((), ()), (), ON), ("options", 0)), (((("ab", "a", True),), (), ON), ("options", 0)),
    (((), [], None), ("places",)), (((), samples.many_places(6), ON), ("places",)),
    (((), (("ab", "one"), ("ab", "may")), ()), ("places", 1)), (((), (("ab", None),), ON), ("places", 0)),
    (((), (("ab", "many"), ("cd", "many")), ON), ("places", 1)), (((), (), (1, 0, 1)), ("modes",)),
    (((), (), [True, True, True]), ("modes",)), (((), (), (True, True)), ("modes",)), (EXAMPLE[:2], ()),
    (list(EXAMPLE), ()), (((), (), samples.Stubborn()), ("modes",)), ((samples.deep(tuple), (), ON), ("options", 0)),
)

CLASSES = {
    "errors": ["KeptError", "BadGrammar", "BadLine", "BadMeaning", "BadForm", "BadText", "BadQuestion",
               "Parts", "Missing"],
    "releases": ["Releases"], "desk": ["Desk"],
}


def defined(module):
    """The functions and classes that are defined in the file of a module."""
    tree = ast.parse((PACKAGE / (module + ".py")).read_text())
    return [node.name for node in tree.body if isinstance(node, (ast.FunctionDef, ast.ClassDef))]


class InterfaceTests(unittest.TestCase):
    def test_functions_and_their_arguments(self):
        for module, functions in FUNCTIONS.items():
            for name, arguments in functions.items():
                self.assertIn(name, defined(module))
                function = getattr(import_module("keptlines." + module), name)
                self.assertEqual(list(inspect.signature(function).parameters), arguments, name)

    def test_classes(self):
        for module, names in CLASSES.items():
            for name in names:
                self.assertIn(name, defined(module))

    def test_methods_and_their_arguments(self):
        for owner, methods in METHODS.items():
            for name, arguments in methods.items():
                # Each one is defined in the class itself.
                method = vars(owner)[name]
                self.assertEqual(list(inspect.signature(method).parameters), ["self"] + arguments, name)

    def test_attributes_are_there_from_the_start(self):
        self.assertEqual(releases.Releases(EXAMPLE).last, EXAMPLE)
        self.assertEqual(desk.Desk("modes").releases.last, ((), (), samples.OFF))
        self.assertEqual(errors.BadForm((1,)).place, (1,))


class KeepingTests(unittest.TestCase):
    """No argument is changed or kept, and what is returned is the caller's own."""

    def test_a_dict_that_was_returned_may_be_changed(self):
        told = grammars.tellings(EXAMPLE)
        wanted = dict(told)
        told.clear()
        told["x"] = "y"
        self.assertEqual(grammars.tellings(EXAMPLE), wanted)
        self.assertEqual(reading.meaning(EXAMPLE, ("--col=a",)), ((("color", "a"),), ()))

    def test_things_are_not_changed(self):
        inner = [1, [2]]
        for call in (grammars.need_grammar, words.need_line, grammars.is_grammar, words.is_word):
            for thing in (inner, (inner, inner, inner), ((inner,), (), samples.ON)):
                try:
                    call(thing)
                except errors.KeptError:
                    pass
                self.assertEqual(inner, [1, [2]])
        with self.assertRaises(errors.BadGrammar):
            grammars.with_options(EXAMPLE, (inner,))
        self.assertEqual(inner, [1, [2]])

    def test_later_changes_have_no_effect(self):
        one = grammar([("ab", "a", "all")], [("file", "many")])
        line = ["-a", "x", "y"]
        told = reading.meaning(one, tuple(line))
        line[1] = "z"
        self.assertEqual(told, ((("ab", ("x",)),), (("file", ("y",)),)))

    def test_equal_calls_return_equal_results_that_the_caller_may_change(self):
        for call, *arguments in CALLS + OTHER_CALLS + tuple((call, ROW[1:3], *more) for call, *more in ROW_CALLS):
            text = repr(arguments)
            told = call(*arguments)
            shown = repr(told)
            for part in [told] if isinstance(told, (list, dict)) else []:
                part.clear()
            self.assertEqual(repr(call(*eval(text))), shown, call)
            self.assertEqual(repr(arguments), text, call)

    def test_what_is_done_returns_none(self):
        one = releases.Releases(EXAMPLE)
        for told in (one.put("a", FORM), one.forget("a")):
            self.assertIsNone(told)

    def test_states_that_were_returned_may_be_changed(self):
        one = releases.Releases(EXAMPLE)
        one.put("a", FORM)
        for told in (one.states(), forms.harms(EXAMPLE, FORM)):
            told.clear()
        self.assertEqual(one.states(), {"a": "doubtful"})
        self.assertEqual(list(forms.harms(EXAMPLE, FORM)), ["copy"])

    def test_equal_calls_return_equal_results(self):
        for modes in samples.ALL_MODES:
            one, other = (grammar(list(EXAMPLE[0]), list(EXAMPLE[1]), modes) for _ in range(2))
            self.assertEqual(grammars.numbers(one), grammars.numbers(other))
            self.assertEqual(list(grammars.tellings(one).items()), list(grammars.tellings(other).items()))
            for line in ((), ("-v", "--verb"), ("-5",), ("--co",), ("a", "-c")):
                self.assertEqual(reading.meaning(one, line), reading.meaning(other, line))
                self.assertEqual(reading.lasts(one, line), reading.lasts(other, line))

    def test_the_values_that_hold_true_or_false_are_those_alone(self):
        for thing in samples.odd_things() + ["ab", (), EXAMPLE]:
            for call in (words.is_word, words.is_name, grammars.is_grammar):
                self.assertIn(call(thing).__class__, (bool,))


class OrderTests(unittest.TestCase):
    """The error that is named first is raised, and of several arguments that of the first one."""

    def test_forms_are_refused_next(self):
        for call in (forms.shape, forms.is_sure, forms.form_lasts, forms.danger, forms.harms, forms.refusal, forms.mended,
                     forms.mended_lasting):
            for form, place in ((["a"], ()), (("a",) * 21, ()), (("-x", "A", None), (1,)), ((("", "x"), ("", "")), (1,))):
                with self.assertRaises(errors.BadForm) as caught:
                    call(EXAMPLE, form)
                self.assertEqual(caught.exception.place, place)
                with self.assertRaises(errors.BadGrammar):
                    call(EXAMPLE[:2], form)

    def test_a_bad_grammar_comes_ahead_of_a_bad_line(self):
        for call in (reading.meaning, reading.lasts):
            with self.assertRaises(errors.BadGrammar):
                call(((), (), None), None)
            with self.assertRaises(errors.BadLine):
                call(EXAMPLE, None)

    def test_the_grammar_comes_ahead_of_its_further_options(self):
        with self.assertRaises(errors.BadGrammar) as caught:
            grammars.with_options(((), None, samples.ON), (None,))
        self.assertEqual(caught.exception.place, ("places",))


    def grammar_is_refused(self, place, call, *arguments):
        with self.assertRaises(errors.BadGrammar, msg=call) as caught:
            call(*arguments)
        self.assertIs(caught.exception.__class__, errors.BadGrammar)
        self.assertEqual(caught.exception.place, place)

    def test_each_function_with_a_grammar_refuses_what_is_none_first(self):
        odd = [(thing, ()) for thing in samples.odd_things() + ["", "abc", (), ((),)]]
        for call, *arguments in CALLS:
            for bad, place in [*BAD_GRAMMARS, *odd]:
                self.grammar_is_refused(place, call, bad, *arguments[1:])
                self.grammar_is_refused(place, call, bad, *[None] * (len(arguments) - 1))

    def test_of_two_grammars_the_first_one_is_refused(self):
        odd = [(thing, ()) for thing in samples.odd_things() + ["", "abc", (), ((),)]]
        for call in (keeping.keeps, keeping.parted, keeping.are_alike, lasting.is_later):
            for bad, place in [*BAD_GRAMMARS, *odd]:
                self.grammar_is_refused(place, call, bad, None)
                self.grammar_is_refused(place, call, EXAMPLE, bad)
                self.grammar_is_refused(("modes",), call, ((), (), None), bad)

    def test_of_a_tuple_of_grammars_the_first_one_is_refused(self):
        odd = [(thing, ()) for thing in samples.odd_things() + ["", "abc", (), ((),)]]
        for call, *more in ROW_CALLS:
            for bad, place in [*BAD_GRAMMARS, *odd]:
                self.grammar_is_refused(place, call, (bad,), *more)
                self.grammar_is_refused(place, call, (EXAMPLE, bad, EXAMPLE), *more)
                self.grammar_is_refused(place, call, (bad, ((), (), None)), *[None for _ in more])
                self.grammar_is_refused(("modes",), call, (EXAMPLE, ((), (), None), bad), *[None for _ in more])

    def test_what_is_no_tuple_of_grammars_is_refused(self):
        for call, *more in ROW_CALLS:
            for thing in [*samples.odd_things(), "", "ab", [EXAMPLE], {EXAMPLE: 1}]:
                self.grammar_is_refused((), call, thing, *more)
        for call, *more in ROW_CALLS[1:]:
            self.grammar_is_refused((), call, (), *more)

    def test_lines_are_refused_next(self):
        for call in (reading.meaning, reading.lasts, lasting.breaker):
            for line, place in ((["a"], ()), (("a",) * 81, ()), (("a", "--none", "A"), (2,)), (("x" * 81,), (0,))):
                with self.assertRaises(errors.BadLine) as caught:
                    call(EXAMPLE, line)
                self.assertEqual(caught.exception.place, place)


class KindsTests(unittest.TestCase):
    """What is returned has the kinds that the interface tells."""

    def test_kinds(self):
        for call, *arguments in CALLS:
            told = call(*arguments)
            for part in self.parts(told):
                self.assertIn(part.__class__, (str, int, bool, tuple, list, dict, type(None)))
        for call in (keeping.keeps, keeping.are_alike, lasting.is_later):
            self.assertIs(call(EXAMPLE, EXAMPLE), True)
            self.assertIs(call(EXAMPLE, grammar()), False)
        self.assertIsNone(keeping.parted(EXAMPLE, EXAMPLE))
        self.assertIs(keeping.keepers(ROW).__class__, list)
        self.assertEqual({pair.__class__ for pair in keeping.keepers(ROW)}, {tuple})
        self.assertIs(wishes.roots(EXAMPLE).__class__, tuple)
        self.assertIs(wishes.fits(EXAMPLE, WISHES), False)
        for call in (forms.is_sure, forms.form_lasts):
            self.assertIs(call(EXAMPLE, FORM), False)
            self.assertIs(call(EXAMPLE, ("--color", ("", "x"))), True)
        self.assertIs(forms.harms(EXAMPLE, FORM).__class__, dict)
        for told in (forms.holes(FORM), forms.danger(EXAMPLE, FORM), forms.refusal(EXAMPLE, FORM), texts.read_form("{x}")):
            self.assertIs(told.__class__, tuple)

    def test_numbers_are_never_true_or_false(self):
        one = releases.Releases(EXAMPLE)
        counts = [one.force(EXAMPLE), one.release(EXAMPLE), len(one), one.kept_from(), forms.form_size(("",))]
        shown = [forms.shape(EXAMPLE, FORM), forms.shape(grammar([("ab", "", "maybe")]), ("--ab",))]
        for told in (keeping.keepers(ROW), keeping.oldest(ROW), wishes.choice(grammar(), WISHES), counts, shown):
            self.assertNotIn(bool, [part.__class__ for part in self.parts(told)])

    def parts(self, thing):
        found = [thing]
        if isinstance(thing, (tuple, list, dict)):
            for part in thing:
                found.extend(self.parts(part))
        return found


if __name__ == "__main__":
    unittest.main()
