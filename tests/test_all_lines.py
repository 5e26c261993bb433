"""Promises [4] to [7] once more, against a reader that follows the document step by step."""

import unittest
from itertools import product

import samples
from keptlines.reading import meaning
from samples import grammar


def told_by_document(one, told):
    names = [name for name, _, _ in one[0]]
    if told in names:
        return told
    owners = [name for name in names if name.startswith(told)]
    return owners[0] if one[2][0] and told and len(owners) == 1 else None


def is_number_word(word):
    return len(word) > 1 and word[0] == "-" and word[1:].isdigit()


def steps(one, line):
    """What is given, as pairs of a NAME (or None for a place word) and a value; None if refused."""
    options, _, (_, mixed, minus) = one
    kinds = {name: kind for name, _, kind in options}
    letters = {letter: name for name, letter, _ in options if letter}
    minus = minus and not any(letter.isdigit() for letter in letters)
    found, closed, left = [], False, list(line)
    while left:
        word = left.pop(0)
        if closed or word[:1] != "-" or word == "-" or (minus and is_number_word(word)):
            found.append((None, word))
            closed = closed or not mixed
        elif word == "--":
            closed = True
        elif word[:2] == "--":
            head = word[2:].split("=")[0]
            name = told_by_document(one, head)
            if name is None:
                return None
            if "=" in word:
                if kinds[name] in ("flag", "count"):
                    return None
                found.append((name, word[len(head) + 3:]))
            elif kinds[name] in ("flag", "count", "maybe"):
                found.append((name, 1))
            elif left:
                found.append((name, left.pop(0)))
            else:
                return None
        else:
            signs = list(word[1:])
            while signs:
                name = letters.get(signs.pop(0))
                if name is None:
                    return None
                if kinds[name] in ("flag", "count") or (kinds[name] == "maybe" and not signs):
                    found.append((name, 1))
                elif signs or left:
                    found.append((name, "".join(signs) if signs else left.pop(0)))
                    signs = []
                else:
                    return None
    return found


def dealt_by_document(places, words):
    counts = {name: 1 for name, arity in places if arity == "one"}
    others = len(words) - len(counts)
    if others < 0:
        return None
    for arity in ("may", "many"):
        for name, own in places:
            if own == arity and others > 0:
                counts[name] = 1 if arity == "may" else others
                others -= counts[name]
    if others > 0:
        return None
    words, pairs = list(words), []
    for name, _ in places:
        if name in counts:
            pairs.append((name, tuple(words[:counts[name]])))
            del words[:counts[name]]
    return tuple(pairs)


def meaning_by_document(one, line):
    found = steps(one, line)
    if found is None:
        return None
    held = []
    for name, _, kind in sorted(one[0]):
        got = [what for owner, what in found if owner == name]
        if kind == "once" and len(got) > 1:
            return None
        if got:
            held.append((name, {"count": len(got), "all": tuple(got)}.get(kind, got[-1])))
    filled = dealt_by_document(one[1], [what for owner, what in found if owner is None])
    return None if filled is None else (tuple(held), filled)


class AllLinesTests(unittest.TestCase):
    OPTIONS = (
        (),
        (("ab", "a", "flag"), ("abc", "b", "last"), ("b-c", "", "count")),
        (("ab", "a", "once"), ("ac", "5", "maybe")),
        (("ba", "", "all"), ("bb", "b", "maybe"), ("aa", "a", "count")),
    )
    PLACES = (
        (),
        (("to", "one"), ("as", "may")),
        (("to", "may"), ("as", "many"), ("by", "one")),
    )
    WORDS = ("", "-", "--", "-5", "-a", "-ab", "-b=", "-a-", "--a", "--ab", "--ab=a", "--abc", "--b", "--=", "a")

    def test_all_lines_of_up_to_three_words(self):
        lines = [line for many in range(4) for line in product(self.WORDS, repeat=many)]
        told = {None: 0}
        for options, places, modes in product(self.OPTIONS, self.PLACES, samples.ALL_MODES):
            one = grammar(options, places, modes)
            for line in lines[::2 if modes[0] == modes[1] else 5]:
                wanted = meaning_by_document(one, line)
                told[wanted] = told.get(wanted, 0) + 1
                self.assertEqual(meaning(one, line), wanted, (one, line))
        # The lines are no test if nearly all of them are refused, or all accepted.
        self.assertGreater(told[None], 1000)
        self.assertGreater(len(told), 300)


if __name__ == "__main__":
    unittest.main()
