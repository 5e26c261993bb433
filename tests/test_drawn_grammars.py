"""Promises [8] to [11] over all pairs of drawn GRAMMARs, and how long parted takes."""

import unittest
from random import Random
from time import perf_counter

import drawn
import pool
import samples
from keptlines.grammars import tellings
from keptlines.keeping import keeps, parted, touchstones
from keptlines.reading import meaning
from keptlines.rules import Rules
from keptlines.wishes import roots
from samples import grammar


def completed(one, words):
    """The words with as few empty ones behind them as let the GRAMMAR accept them, or None."""
    for many in range(8):
        line = words + ("",) * many
        if meaning(one, line) is not None:
            return line
    return None


def lines_of_the_fact(one):
    """The LINEs of [10] that the GRAMMAR accepts, read off the document."""
    found = [("-0",), ("", "--")] + [("",) * many for many in range(7)]
    words = []
    for telling in tellings(one):
        words.extend(["--" + telling, "--" + telling + "="])
    for _, letter, _ in one[0]:
        if letter != "":
            words.append("-" + letter)
            found.append(("-" + letter + letter,))
    for word in words:
        found.extend([(word,), (word, word), (word, "", word, "")])
    lines = [completed(one, words) for words in found]
    return list(dict.fromkeys(line for line in lines if line is not None))


class AllPairsTests(unittest.TestCase):
    @classmethod
    def setUpClass(cls):
        draw = Random(10)
        found = [drawn.draw_grammar(draw, 3) for _ in range(75)]
        # Those that differ in little keep each other, or are parted by few LINEs.
        found.extend([drawn.changed_grammar(draw, draw.choice(found)) for _ in range(90)])
        found.extend([grammar((), samples.many_places(many), modes) for many in (3, 5) for modes in samples.ALL_MODES])
        cls.grammars = list(dict.fromkeys(found))
        cls.lines = [lines_of_the_fact(one) for one in cls.grammars]
        cls.told = [[meaning(one, line) for line in lines] for one, lines in zip(cls.grammars, cls.lines)]

    def least(self, old, new):
        """The least SIZE of LINEs of [10] that are parted, or None."""
        sizes = [pool.line_size(line) for line, what in zip(self.lines[old], self.told[old])
                 if meaning(self.grammars[new], line) != what]
        return min(sizes, default=None)

    def test_the_line_that_parted_tells(self):
        self.assertGreater(len(self.grammars), 100)
        kept = 0
        for m, old in enumerate(self.grammars):
            for n, new in enumerate(self.grammars):
                least, line = self.least(m, n), parted(old, new)
                self.assertIs(keeps(old, new), least is None, (old, new))
                if least is None:
                    self.assertIsNone(line)
                    kept += m != n
                    continue
                self.assertIsInstance(line, tuple)
                self.assertIsNotNone(meaning(old, line), (old, new, line))
                self.assertNotEqual(meaning(old, line), meaning(new, line), (old, new, line))
                self.assertEqual(pool.line_size(line), least, (old, new, line))
        self.assertGreater(kept, 50)

    def test_the_same_line_is_told_again(self):
        for m, old in enumerate(self.grammars):
            new = self.grammars[m - 1]
            self.assertEqual(parted(old, new), parted(eval(repr(old)), eval(repr(new))))

    def test_the_shortest_tellings_and_roots(self):
        for one in self.grammars:
            least = {}
            for telling, name in tellings(one).items():
                least[name] = min(telling, least.get(name, telling), key=len)
            self.assertEqual(Rules(one).least_tellings(), least, one)
            self.assertEqual(roots(one), tuple(sorted(least[name] for name in least if least[name] != name)))

    def test_touchstones_tell_who_keeps(self):
        for old in self.grammars:
            stones = touchstones(old)
            told = [meaning(old, line) for line in stones]
            self.assertNotIn(None, told)
            for new in self.grammars:
                same = all(meaning(new, line) == what for line, what in zip(stones, told))
                self.assertIs(same, keeps(old, new), (old, new))


class TimeTests(unittest.TestCase):
    """What a thousand calls take; the least of three tries, as other things may run besides."""

    OLD = grammar([("abcdefghijkl", "m", "flag")], [("in", "many")])
    NEW = grammar([("abcdefghijkl", "m", "count")], [("in", "many")])

    def seconds(self, call, *arguments):
        found = []
        for _ in range(3):
            start = perf_counter()
            for _ in range(1000):
                call(*arguments)
            found.append(perf_counter() - start)
        return min(found)

    def test_a_thousand_calls_end_within_a_second(self):
        self.assertEqual(parted(self.OLD, self.NEW), ("-mm",))
        for call, *arguments in ((parted, self.OLD, self.NEW), (parted, self.NEW, self.OLD), (touchstones, self.OLD),
                                 (keeps, self.OLD, self.NEW)):
            self.assertLess(self.seconds(call, *arguments), 1, call)

    def test_parted_does_not_try_what_it_need_not(self):
        # It took more than ten times as long as keeps when all LINEs of [10] were made and read.
        self.assertLess(self.seconds(parted, self.OLD, self.NEW), 10 * self.seconds(keeps, self.OLD, self.NEW))


if __name__ == "__main__":
    unittest.main()
