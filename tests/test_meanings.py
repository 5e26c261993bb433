"""Promise [7] as need_meaning and its kin use it: what is a MEANING, and where it fails if not."""

import unittest

import samples
from keptlines.errors import BadGrammar, BadMeaning
from keptlines.spelling import least, least_common, least_lasting, need_meaning
from samples import EXAMPLE, grammar

# One OPTION of each KIND, in the order of their NAMEs, and PLACES for 2 to 40 place words.
ONE = grammar(
    [("kind-f", "f", "flag"), ("kind-c", "c", "count"), ("kind-o", "o", "once"),
     ("kind-l", "l", "last"), ("kind-a", "a", "all"), ("kind-m", "m", "maybe")],
    [("may-be", "may"), ("first", "one"), ("many", "many"), ("last", "one")])
FILLED = (("first", ("a",)), ("last", ("b",)))


class MeaningTests(unittest.TestCase):
    def taken(self, thing, one=ONE):
        self.assertIs(need_meaning(one, thing), thing)
        self.assertIsInstance(least(one, thing), tuple)
        self.assertIsInstance(least_lasting(one, thing), tuple)
        self.assertIsInstance(least_common((one, one), thing), tuple)

    def bad(self, thing, place, one=ONE):
        for call, first in ((need_meaning, one), (least, one), (least_lasting, one),
                            (least_common, (one,)), (least_common, (one, grammar()))):
            with self.assertRaises(BadMeaning, msg=samples.show(thing)) as caught:
                call(first, thing)
            self.assertIs(caught.exception.__class__, BadMeaning)
            self.assertEqual(caught.exception.place, place)
            self.assertTrue(all(part.__class__ in (str, int) for part in caught.exception.place))

    def held(self, right, *pairs):
        """The last of these pairs can stand in HELD, or it cannot."""
        if right:
            self.taken((pairs, FILLED))
        else:
            self.bad((pairs, FILLED), ("held", len(pairs) - 1))

    def filled(self, right, *pairs, one=ONE):
        if right:
            self.taken(((), pairs), one)
        else:
            self.bad(((), pairs), ("filled",), one)


class WholeTests(MeaningTests):
    def test_meanings(self):
        self.taken(((), FILLED))
        self.taken(((), ()), grammar())
        self.taken(((), ()), EXAMPLE)
        self.taken(((("color", "-v"), ("verbose", 2)), (("file", ("a", "-5")),)), EXAMPLE)
        self.taken(((("kind-a", ("", "=")), ("kind-c", 3), ("kind-f", 1), ("kind-l", ""), ("kind-m", 1),
                     ("kind-o", "--x")), FILLED))

    def test_things_that_are_no_pair_of_tuples(self):
        for thing in samples.odd_things() + ["", "ab", (), ((),), ((), (), ()), (((), ()),), [(), ()]]:
            self.bad(thing, ())
        for thing in samples.odd_things() + ["", "ab"]:
            self.bad((thing, FILLED), ())
            self.bad(((), thing), ())
            self.bad((thing, thing), ())
            self.bad(((thing,), thing), ())
        self.bad(samples.deep(tuple), ())
        self.bad((samples.deep(tuple), FILLED), ("held", 0))
        self.bad(((), samples.deep(tuple)), ("filled",))

    def test_the_grammar_comes_first(self):
        for call, first in ((need_meaning, ((), (), None)), (least, ((), (), None)), (least_lasting, ((), (), None)),
                            (least_common, (ONE, ((), (), None)))):
            with self.assertRaises(BadGrammar) as caught:
                call(first, None)
            self.assertEqual(caught.exception.place, ("modes",))

    def test_the_first_fault_counts(self):
        good = ("kind-c", 1)
        self.bad(((good, None, None), None), ())
        self.bad(((good, None, ("kind-f", 2)), ()), ("held", 1))
        self.bad(((good, ("kind-f", 2), None), ()), ("held", 1))
        self.bad(((good, ("kind-c", 0), None), (None,)), ("held", 1))
        self.bad(((good,), (None,)), ("filled",))


class HeldTests(MeaningTests):
    def test_items_that_are_no_pairs(self):
        odd = samples.odd_things() + samples.odd_tuples()
        for thing in odd + ["", "ab", "kind-f", (), ("kind-f",), ("kind-f", 1, 1), ["kind-f", 1]]:
            self.held(False, thing)
            self.held(False, ("kind-f", 1), thing)

    def test_names_that_are_none(self):
        for thing in samples.odd_things() + samples.odd_tuples() + ["", "kind", "kind-f ", "f", "first", "kind-ff"]:
            self.held(False, (thing, 1))
            self.held(False, ("kind-a", ("",)), (thing, 1))

    def test_names_must_ascend(self):
        self.held(True, ("kind-c", 1), ("kind-f", 1))
        self.held(False, ("kind-f", 1), ("kind-c", 1))
        self.held(False, ("kind-f", 1), ("kind-f", 1))
        self.held(False, ("kind-c", 1), ("kind-o", ""), ("kind-m", ""))

    def test_no_kind_holds_odd_things(self):
        for kind in "acflmo":
            for thing in samples.odd_things() + samples.odd_tuples() + [(), ((),), ("ab", 1), ("A",), ("x" * 81,)]:
                number = isinstance(thing, int) and not isinstance(thing, bool)
                if not (kind in "cfm" and number and (thing == 1 or (kind == "c" and thing == 2))):
                    self.held(False, ("kind-" + kind, thing))

    def test_flag(self):
        self.held(True, ("kind-f", 1))
        for what in (0, 2, -1, True, "1", "", (1,)):
            self.held(False, ("kind-f", what))

    def test_count(self):
        for what in (1, 2, 39, 40):
            self.held(True, ("kind-c", what))
        for what in (0, 41, -1, 10 ** 60, True, "1", "", (1,)):
            self.held(False, ("kind-c", what))

    def test_values(self):
        for kind in "olm":
            for what in ("", "-", "--", "-5", "a=b.c", "x" * 80, "1"):
                self.held(True, ("kind-" + kind, what))
            for what in ("x" * 81, "A", "a b", "\n", "/", ("a",)):
                self.held(False, ("kind-" + kind, what))
        for kind in "ol":
            self.held(False, ("kind-" + kind, 1))

    def test_maybe(self):
        self.held(True, ("kind-m", 1))
        for what in (0, 2, -1, True, False, (1,), (1, "a")):
            self.held(False, ("kind-m", what))

    def test_all(self):
        for what in (("",), ("a", "a"), ("-",) * 19, ("x" * 80,) * 20):
            self.held(True, ("kind-a", what))
        for what in ((), ("a",) * 21, ("a",) * 1000, "", "a", 1, ["a"], ("a", "x" * 81), ("A",), (1,), ("a", None)):
            self.held(False, ("kind-a", what))

    def test_24_options(self):
        one = grammar([(name, "", "all") for name, _, _ in samples.many_options(24)])
        pairs = [(name, ("x" * 80,) * 20) for name in sorted(name for name, _, _ in one[0])]
        self.taken((tuple(pairs), ()), one)
        self.bad((tuple(pairs + [pairs[0]]), ()), ("held", 24), one)
        self.bad((tuple(pairs[:23] + [("op-9", ("",))]), ()), ("held", 23), one)


class FilledTests(MeaningTests):
    def test_items_that_are_no_pairs(self):
        odd = samples.odd_things() + samples.odd_tuples()
        for thing in odd + ["", "ab", (), ("first",), ("first", ("a",), ("b",)), ["first", ("a",)]]:
            self.filled(False, thing)
            self.filled(False, ("first", ("a",)), thing)

    def test_names_and_words_that_are_none(self):
        for thing in samples.odd_things() + samples.odd_tuples() + ["A", "x" * 81]:
            self.filled(False, (thing, ("a",)), ("last", ("b",)))
            self.filled(False, ("first", thing), ("last", ("b",)))
            self.filled(False, ("first", (thing,)), ("last", ("b",)))
        self.filled(False, ("first", "a"), ("last", "b"))
        self.filled(False, ("first", ["a"]), ("last", ("b",)))
        self.filled(False, ("first", ("x" * 81,)), ("last", ("b",)))
        self.filled(True, ("first", ("x" * 80,)), ("last", ("",)))

    def test_it_must_be_dealt_so(self):
        self.filled(True, *FILLED)
        self.filled(True, ("may-be", ("",)), *FILLED)
        self.filled(True, ("may-be", ("",)), FILLED[0], ("many", ("", "")), FILLED[1])
        self.filled(False)
        self.filled(False, FILLED[0])
        self.filled(False, FILLED[1])
        self.filled(False, FILLED[1], FILLED[0])
        self.filled(False, FILLED[0], ("many", ("a",)), FILLED[1])
        self.filled(False, FILLED[0], ("many", ()), FILLED[1])
        self.filled(False, ("first", ("a", "b")))
        self.filled(False, ("first", ("a", "b")), FILLED[1])
        self.filled(False, FILLED[0], FILLED[0])
        self.filled(False, *FILLED, ("kind-f", ("a",)))
        self.filled(False, ("first", ()), ("last", ("a", "b")))

    def test_40_place_words_and_41(self):
        for many, right in ((1, True), (37, True), (38, False), (1000, False)):
            self.filled(right, ("may-be", ("",)), FILLED[0], ("many", ("x" * 80,) * many), FILLED[1])
        one = grammar((), [("file", "many")])
        for many in (1, 40):
            self.filled(True, ("file", ("-",) * many), one=one)
        for many in (0, 41):
            self.filled(False, ("file", ("-",) * many), one=one)

    def test_no_places(self):
        self.filled(True, one=grammar())
        self.filled(False, ("file", ("",)), one=grammar())
        self.filled(True, one=grammar((), [("file", "may")]))
        self.filled(False, one=grammar((), [("file", "one")]))

    def test_many_items(self):
        one = grammar((), [(name, "one") for name, _ in samples.many_places(5)])
        pairs = [(name, ("",)) for name, _ in samples.many_places(5)]
        self.filled(True, *pairs, one=one)
        self.filled(False, *pairs, ("place-f", ("",)), one=one)
        self.filled(False, *(pairs * 100), one=one)


if __name__ == "__main__":
    unittest.main()
