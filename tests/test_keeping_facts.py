"""The Facts of [9], [10], [11] and [12], tried with all pairs of many small GRAMMARs and all short LINEs."""

import unittest

import pool
from keptlines.keeping import are_alike, keepers, keeps, parted, touchstones
from keptlines.reading import meaning


class FactTests(unittest.TestCase):
    @classmethod
    def setUpClass(cls):
        cls.grammars = pool.grammars()
        cls.lines = pool.lines()
        cls.known = {None: 0}
        cls.told = [cls.all_told(one) for one in cls.grammars]
        cls.kept = {(m, n): keeps(old, new) for m, old in enumerate(cls.grammars)
                    for n, new in enumerate(cls.grammars)}

    @classmethod
    def all_told(cls, one):
        """A number for the MEANING of each LINE: the same one for the same MEANING, 0 for None."""
        return [cls.known.setdefault(meaning(one, line), len(cls.known)) for line in cls.lines]

    def first_parted(self, old, new):
        """The first of the LINEs that is parted, or None."""
        for at, (one, other) in enumerate(zip(self.told[old], self.told[new])):
            if one and one != other:
                return self.lines[at]
        return None

    def test_there_is_enough_to_try(self):
        kept = [pair for pair in self.kept if self.kept[pair]]
        self.assertGreater(len(self.grammars), 50)
        self.assertGreater(len(self.known), 300)
        self.assertGreater(len(kept), 2 * len(self.grammars))

    def test_what_keeps_parts_none_of_the_lines(self):
        for (m, n), kept in self.kept.items():
            if kept:
                self.assertIsNone(self.first_parted(m, n), (self.grammars[m], self.grammars[n]))

    def test_what_does_not_keep_parts_the_line_that_is_told_and_none_that_is_shorter(self):
        sizes = {}
        for (m, n), kept in self.kept.items():
            old, new = self.grammars[m], self.grammars[n]
            line = parted(old, new)
            self.assertIs(line is None, kept, (old, new))
            if kept:
                continue
            self.assertIsNotNone(meaning(old, line))
            self.assertNotEqual(meaning(old, line), meaning(new, line))
            found = self.first_parted(m, n)
            if found is not None:
                self.assertLessEqual(pool.line_size(line), pool.line_size(found), (old, new, line, found))
            if pool.line_size(line) <= 4:
                self.assertIsNotNone(found)
            sizes[pool.line_size(line)] = True
        self.assertGreaterEqual(set(sizes), {0, 1, 2, 3, 4, 5, 6, 10})

    def test_touchstones_are_accepted_and_tell_who_keeps(self):
        for m, old in enumerate(self.grammars):
            stones = touchstones(old)
            told = [meaning(old, line) for line in stones]
            self.assertIsInstance(stones, tuple)
            self.assertNotIn(None, told)
            for n, new in enumerate(self.grammars):
                same = [meaning(new, line) for line in stones] == told
                self.assertIs(same, self.kept[m, n], (old, new))

    def test_alike_ones_accept_the_same_lines_with_the_same_meanings(self):
        for (m, n), kept in self.kept.items():
            alike = are_alike(self.grammars[m], self.grammars[n])
            self.assertIs(alike, kept and self.kept[n, m])
            if alike:
                self.assertEqual(self.told[m], self.told[n])

    def test_to_keep_is_handed_on(self):
        pairs = [pair for pair in self.kept if self.kept[pair]]
        for m, n in pairs:
            for other, last in pairs:
                if other == n:
                    self.assertTrue(self.kept[m, last])

    def test_keepers_are_those_pairs(self):
        wanted = [(m, n) for m, n in self.kept if m != n and self.kept[m, n]]
        self.assertEqual(keepers(tuple(self.grammars)), sorted(wanted))


if __name__ == "__main__":
    unittest.main()
