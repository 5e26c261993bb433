"""Promises [21] to [25], by their definitions, over drawn GRAMMARs and FORMs with many FILLINGs."""

import unittest
from itertools import product
from random import Random

import drawn
from keptlines.errors import BadQuestion
from keptlines.forms import danger, filled, form_lasts, form_size, harms, holes, is_sure, refusal, shape
from keptlines.grammars import is_grammar, with_options
from keptlines.lasting import is_later
from keptlines.reading import meaning_by
from keptlines.rules import Rules
from samples import grammar


class FormTests(unittest.TestCase):
    def fillings(self, one, form, words):
        """All FILLINGs of the FORM with these WORDs, each with its LINE's MEANING and the filled SHAPE."""
        rules, told, found = Rules(one), shape(one, form), holes(form)
        for row in product(words, repeat=len(found)):
            filling = tuple(zip(found, row))
            what = meaning_by(rules, filled(form, filling))
            yield filling, what, drawn.fill_shape(one, told, dict(filling))

    def check(self, one, form, words):
        """What is told of a FORM is what its FILLINGs show; returns what was told."""
        held = [name for name, _ in shape(one, form)[0]]
        least, refused, harmed = None, False, {}
        for filling, what, wanted in self.fillings(one, form, words):
            if what != wanted:
                size = sum(len(word) for _, word in filling)
                least = size if least is None else min(size, least)
            refused = refused or what is None
            for name, _ in (what or ((), ()))[0]:
                if name not in held:
                    harmed[name] = filling
        self.check_danger(one, form, least)
        self.check_harms(one, form, harmed)
        self.check_refusal(one, form, refused)
        return least, harmed, refused

    def check_danger(self, one, form, least):
        self.assertIs(is_sure(one, form), least is None, (one, form))
        told = danger(one, form)
        if least is None:
            self.assertIsNone(told)
            return
        self.assertEqual(sum(len(word) for _, word in told), least, (one, form, told))
        wanted = drawn.fill_shape(one, shape(one, form), dict(told))
        self.assertNotEqual(meaning_by(Rules(one), filled(form, told)), wanted, (one, form, told))

    def check_harms(self, one, form, harmed):
        told = harms(one, form)
        self.assertEqual(list(told), sorted(told))
        # Each one that FILLINGs show is told; what is told besides is brought by the FILLING that is told.
        self.assertLessEqual(set(harmed), set(told), (one, form, harmed))
        held = [name for name, _ in shape(one, form)[0]]
        for name, filling in told.items():
            what = meaning_by(Rules(one), filled(form, filling))
            self.assertIsNotNone(what, (one, form, name, filling))
            self.assertIn(name, dict(what[0]), (one, form, filling))
            self.assertNotIn(name, held)

    def check_refusal(self, one, form, refused):
        told = refusal(one, form)
        self.assertIs(told is not None, refused, (one, form))
        if told is not None:
            self.assertIsNone(meaning_by(Rules(one), filled(form, told)), (one, form, told))


class DrawnTests(FormTests):
    def test_a_shape_is_what_plain_fillings_give(self):
        draw, shaped, none = Random(21), 0, 0
        for _ in range(250):
            one = drawn.draw_grammar(draw)
            for _ in range(8):
                form = drawn.draw_form(draw, one, draw.choice((0, 1, 1, 2)))
                wanted = drawn.shape_by_document(one, Rules(one), form)
                self.assertEqual(shape(one, form), wanted, (one, form))
                shaped, none = shaped + (wanted is not None), none + (wanted is None)
        self.assertGreater(shaped, 500)
        self.assertGreater(none, 500)

    def test_one_hole_in_several_pieces(self):
        draw, shaped, unsure = Random(22), 0, 0
        for _ in range(150):
            one = drawn.draw_grammar(draw)
            for _ in range(8):
                form = drawn.draw_form(draw, one, draw.choice((2, 3)))
                form = tuple(piece if isinstance(piece, str) else (piece[0], "x") for piece in form)
                told = shape(one, form)
                self.assertEqual(told, drawn.shape_by_document(one, Rules(one), form), (one, form))
                if told is None:
                    continue
                least = None
                for filling, what, wanted in self.fillings(one, form, drawn.harmful_words(one)):
                    if what != wanted:
                        least = min(len(filling[0][1]), 100 if least is None else least)
                self.check_danger(one, form, least)
                shaped, unsure = shaped + 1, unsure + (least is not None)
                for call in (harms, refusal):
                    self.assertRaises(BadQuestion, call, one, form)
        self.assertGreater(shaped, 100)
        self.assertGreater(unsure, 50)

    def test_one_hole_with_harmful_words(self):
        draw, counts = Random(23), [0, 0, 0, 0]
        for _ in range(250):
            one = drawn.draw_grammar(draw)
            for _ in range(8):
                form = drawn.draw_form(draw, one, 1)
                if shape(one, form) is not None:
                    self.count(counts, *self.check(one, form, drawn.harmful_words(one, "ab-c5")))
        self.assertGreater(min(counts), 20, counts)

    def test_two_holes_with_harmful_words(self):
        draw, counts = Random(24), [0, 0, 0, 0]
        for _ in range(400):
            one = drawn.draw_grammar(draw)
            words = drawn.harmful_words(one)
            for _ in range(8):
                form = drawn.draw_form(draw, one, 2)
                if shape(one, form) is not None and not is_sure(one, form):
                    few = words[:9] + draw.sample(words[9:], min(30, len(words) - 9))
                    self.count(counts, *self.check(one, form, few))
        self.assertGreater(min(counts[1:]), 20, counts)

    def count(self, counts, least, harmed, refused):
        counts[0] += least is None
        counts[1] += least is not None
        counts[2] += len(harmed) > 0
        counts[3] += least is not None and not refused

    def test_a_form_without_a_hole(self):
        draw, count = Random(25), 0
        for _ in range(200):
            one = drawn.draw_grammar(draw)
            form = drawn.draw_form(draw, one, 0)
            if shape(one, form) is not None:
                self.assertEqual(self.check(one, form, ()), (None, {}, False))
                self.assertEqual(shape(one, form), meaning_by(Rules(one), form))
                count += 1
        self.assertGreater(count, 30)


class LastingTests(FormTests):
    """A FORM lasts if it has its SHAPE, and is SURE, by all LATER GRAMMARs: many are tried, of one OPTION more."""

    NAMES = ("ab", "aba", "abbb", "bab", "bbb", "ccc", "a-bb", "aabb", "cca", "zz")

    def later_ones(self, one):
        for name, letter, kind in product(self.NAMES, ("", "5", "z"), ("flag", "last")):
            option = (name, letter, kind)
            if len(one[0]) < 24 and is_grammar((one[0] + (option,), *one[1:])):
                yield with_options(one, (option,))
        free = "defghijk"
        yield grammar([(name, letter or free[at], kind) for at, (name, letter, kind) in enumerate(one[0])], *one[1:])

    def test_drawn_forms(self):
        draw, counts = Random(26), [0, 0, 0]
        for _ in range(500):
            one = drawn.draw_grammar(draw)
            later = list(self.later_ones(one))
            for _ in range(4):
                form = drawn.draw_form(draw, one, draw.choice((0, 1, 1, 2)))
                told = shape(one, form)
                wanted = is_sure(one, form) and all(is_sure(new, form) and shape(new, form) == told for new in later)
                self.assertIs(form_lasts(one, form), wanted, (one, form))
                counts[0] += wanted
                counts[1] += not wanted and is_sure(one, form)
                counts[2] += told is not None and not is_sure(one, form)
            for new in later:
                self.assertTrue(is_later(one, new))
        self.assertGreater(min(counts), 15, counts)


class SizeTests(FormTests):
    def test_the_size_is_what_stands_in_words_and_texts(self):
        draw = Random(27)
        for _ in range(200):
            form = drawn.draw_form(draw, drawn.draw_grammar(draw), draw.choice((0, 1, 2, 3)))
            texts = [piece if isinstance(piece, str) else piece[0] for piece in form]
            self.assertEqual(form_size(form), len(form) + len("".join(texts)))
            self.assertEqual(holes(form), tuple(sorted({piece[1] for piece in form if isinstance(piece, tuple)})))


if __name__ == "__main__":
    unittest.main()
