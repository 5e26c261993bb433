"""The error classes of the interface."""

import unittest

from keptlines import errors

PLACED = (errors.BadGrammar, errors.BadLine, errors.BadMeaning, errors.BadForm, errors.BadText)


class ErrorTests(unittest.TestCase):
    def test_kept_error_stands_straight_under_value_error(self):
        self.assertEqual(errors.KeptError.__bases__, (ValueError,))

    def test_refusals_stand_straight_under_kept_error(self):
        for refusal in PLACED + (errors.BadQuestion,):
            self.assertEqual(refusal.__bases__, (errors.KeptError,))

    def test_refusals_have_their_place(self):
        for refusal in PLACED:
            for place in ((), (3,), ("options",), ("places", 4)):
                self.assertEqual(refusal(place).place, place)
            self.assertIn("places", str(refusal(("places", 4))))

    def test_each_refusal_defines_its_making_itself(self):
        for error in PLACED + (errors.Parts, errors.Missing):
            self.assertIn("__init__", vars(error))

    def test_a_bad_question_is_made_with_a_text(self):
        self.assertEqual(str(errors.BadQuestion("why")), "why")

    def test_parts_has_its_line(self):
        self.assertEqual(errors.Parts.__bases__, (RuntimeError,))
        self.assertEqual(errors.Parts(("--co", "")).line, ("--co", ""))

    def test_missing_has_the_very_thing(self):
        self.assertEqual(errors.Missing.__bases__, (KeyError,))
        thing = ["of", "any", "kind"]
        self.assertIs(errors.Missing(thing).name, thing)

    def test_missing_can_be_shown_whatever_it_was_asked(self):
        thing = []
        for _ in range(20000):
            thing = [thing]
        self.assertIsInstance(str(errors.Missing(thing)), str)
        self.assertIsInstance(repr(errors.Missing(thing)), str)


if __name__ == "__main__":
    unittest.main()
