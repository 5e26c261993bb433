"""What a GRAMMAR says, laid out for many questions about it."""

from keptlines.errors import BadGrammar
from keptlines.grammars import need_grammar, reads_numbers, shares, span


class Rules:
    """What one GRAMMAR says; nothing is changed after it was made."""

    def __init__(self, grammar):
        options, places, modes = grammar
        self.kinds = {name: kind for name, _, kind in options}
        self.own_letters = {name: letter for name, letter, _ in options}
        self.letters = {letter: name for name, letter, _ in options if letter != ""}
        self.places = places
        self.short = modes[0]
        self.mixed = modes[1]
        self.minus = reads_numbers(grammar)
        self.fewest, self.most = span(places)

    def tells(self, told):
        """The NAME of the OPTION that this tells, or None."""
        if told in self.kinds:
            return told
        if not self.short or told == "":
            return None
        found = [name for name in self.kinds if name.startswith(told)]
        return found[0] if len(found) == 1 else None

    def least_telling(self, name):
        """The shortest of the TELLINGs of an OPTION."""
        for end in range(1, len(name)):
            if self.tells(name[:end]) == name:
                return name[:end]
        return name

    def tellings_of(self, name):
        """All TELLINGs of an OPTION, the shortest one first."""
        # No other NAME begins with a shortening, so all that is longer tells the same.
        return [name[:end] for end in range(len(self.least_telling(name)), len(name) + 1)]

    def roots(self):
        """The ROOTs, ascending: the least shortenings of the OPTIONs that have one."""
        least = {name: self.least_telling(name) for name in self.kinds}
        return sorted([least[name] for name in least if least[name] != name])

    def takes_words(self, count):
        """Whether a LINE with so many place words, or more, is accepted."""
        return self.most is None or self.most >= count

    def deals(self, count):
        """Whether just so many place words are accepted."""
        return count >= self.fewest and self.takes_words(count)

    def places_numbers(self):
        """Whether some accepted LINE has a NUMBER WORD as place word while it is open."""
        return self.minus and self.takes_words(1)

    def dealt(self, count):
        """The pairs of the NAMEs of PLACEs and how many of count place words they get."""
        got = shares(self.places, count)
        if got is None:
            return None
        return [(place[0], many) for place, many in zip(self.places, got) if many > 0]


def rules_of_all(grammars):
    """The Rules of each GRAMMAR of a tuple; BadGrammar of the first thing that is none."""
    if not isinstance(grammars, tuple):
        raise BadGrammar(())
    return [Rules(need_grammar(grammar)) for grammar in grammars]


def rules_of_some(grammars):
    """The Rules of each GRAMMAR of a tuple that is not empty."""
    found = rules_of_all(grammars)
    if not found:
        raise BadGrammar(())
    return found
