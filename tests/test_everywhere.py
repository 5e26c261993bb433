"""Promise [1], what holds everywhere, and the interface of the parts that have landed."""

import ast
import inspect
import unittest
from importlib import import_module
from pathlib import Path

import samples
from keptlines import errors, grammars, reading, words
from samples import EXAMPLE, grammar

PACKAGE = Path(__file__).resolve().parent.parent / "keptlines"

FUNCTIONS = {
    "words": {"is_word": ["thing"], "is_name": ["thing"], "need_line": ["thing"], "size": ["line"]},
    "grammars": {
        "need_grammar": ["thing"], "is_grammar": ["thing"], "tellings": ["grammar"],
        "numbers": ["grammar"], "with_options": ["grammar", "options"],
    },
    "reading": {"meaning": ["grammar", "line"], "lasts": ["grammar", "line"]},
}

CLASSES = {
    "errors": ["KeptError", "BadGrammar", "BadLine", "BadMeaning", "BadForm", "BadText", "BadQuestion",
               "Parts", "Missing"],
}


def defined(module):
    """The functions and classes that are defined in the file of a module."""
    tree = ast.parse((PACKAGE / (module + ".py")).read_text())
    return [node.name for node in tree.body if isinstance(node, (ast.FunctionDef, ast.ClassDef))]


class InterfaceTests(unittest.TestCase):
    def test_functions_and_their_arguments(self):
        for module, functions in FUNCTIONS.items():
            for name, arguments in functions.items():
                self.assertIn(name, defined(module))
                function = getattr(import_module("keptlines." + module), name)
                self.assertEqual(list(inspect.signature(function).parameters), arguments, name)

    def test_classes(self):
        for module, names in CLASSES.items():
            for name in names:
                self.assertIn(name, defined(module))


class KeepingTests(unittest.TestCase):
    """No argument is changed or kept, and what is returned is the caller's own."""

    def test_a_dict_that_was_returned_may_be_changed(self):
        told = grammars.tellings(EXAMPLE)
        wanted = dict(told)
        told.clear()
        told["x"] = "y"
        self.assertEqual(grammars.tellings(EXAMPLE), wanted)
        self.assertEqual(reading.meaning(EXAMPLE, ("--col=a",)), ((("color", "a"),), ()))

    def test_things_are_not_changed(self):
        inner = [1, [2]]
        for call in (grammars.need_grammar, words.need_line, grammars.is_grammar, words.is_word):
            for thing in (inner, (inner, inner, inner), ((inner,), (), samples.ON)):
                try:
                    call(thing)
                except errors.KeptError:
                    pass
                self.assertEqual(inner, [1, [2]])
        with self.assertRaises(errors.BadGrammar):
            grammars.with_options(EXAMPLE, (inner,))
        self.assertEqual(inner, [1, [2]])

    def test_later_changes_have_no_effect(self):
        one = grammar([("ab", "a", "all")], [("file", "many")])
        line = ["-a", "x", "y"]
        told = reading.meaning(one, tuple(line))
        line[1] = "z"
        self.assertEqual(told, ((("ab", ("x",)),), (("file", ("y",)),)))

    def test_equal_calls_return_equal_results(self):
        for modes in samples.ALL_MODES:
            one, other = (grammar(list(EXAMPLE[0]), list(EXAMPLE[1]), modes) for _ in range(2))
            self.assertEqual(grammars.numbers(one), grammars.numbers(other))
            self.assertEqual(list(grammars.tellings(one).items()), list(grammars.tellings(other).items()))
            for line in ((), ("-v", "--verb"), ("-5",), ("--co",), ("a", "-c")):
                self.assertEqual(reading.meaning(one, line), reading.meaning(other, line))
                self.assertEqual(reading.lasts(one, line), reading.lasts(other, line))

    def test_the_values_that_hold_true_or_false_are_those_alone(self):
        for thing in samples.odd_things() + ["ab", (), EXAMPLE]:
            for call in (words.is_word, words.is_name, grammars.is_grammar):
                self.assertIn(call(thing).__class__, (bool,))


class OrderTests(unittest.TestCase):
    """The error that is named first is raised, and of several arguments that of the first one."""

    def test_a_bad_grammar_comes_ahead_of_a_bad_line(self):
        for call in (reading.meaning, reading.lasts):
            with self.assertRaises(errors.BadGrammar):
                call(((), (), None), None)
            with self.assertRaises(errors.BadLine):
                call(EXAMPLE, None)

    def test_the_grammar_comes_ahead_of_its_further_options(self):
        with self.assertRaises(errors.BadGrammar) as caught:
            grammars.with_options(((), None, samples.ON), (None,))
        self.assertEqual(caught.exception.place, ("places",))


if __name__ == "__main__":
    unittest.main()
