"""What a GRAMMAR says, laid out for many questions about it."""

from keptlines.errors import BadGrammar
from keptlines.grammars import need_grammar, reads_numbers, shares, span, told_names


class Rules:
    """What one GRAMMAR says; nothing is changed after it was made."""

    def __init__(self, grammar):
        options, places, modes = grammar
        self.told = told_names(grammar)
        self.kinds = {name: kind for name, _, kind in options}
        self.own_letters = {name: letter for name, letter, _ in options}
        self.letters = {letter: name for name, letter, _ in options if letter != ""}
        self.places = places
        self.mixed = modes[1]
        self.minus = reads_numbers(grammar)
        self.fewest, self.most = span(places)

    def takes_words(self, count):
        """Whether a LINE with so many place words, or more, is accepted."""
        return self.most is None or self.most >= count

    def places_numbers(self):
        """Whether some accepted LINE has a NUMBER WORD as place word while it is open."""
        return self.minus and self.takes_words(1)

    def dealt(self, count):
        """The pairs of the NAMEs of PLACEs and how many of count place words they get."""
        got = shares(self.places, count)
        if got is None:
            return None
        return [(place[0], many) for place, many in zip(self.places, got) if many > 0]


def rules_of_all(grammars):
    """The Rules of each GRAMMAR of a tuple; BadGrammar of the first thing that is none."""
    if not isinstance(grammars, tuple):
        raise BadGrammar(())
    return [Rules(need_grammar(grammar)) for grammar in grammars]


def rules_of_some(grammars):
    """The Rules of each GRAMMAR of a tuple that is not empty."""
    found = rules_of_all(grammars)
    if not found:
        raise BadGrammar(())
    return found


def shortest(told):
    """A dict from NAMEs to the shortest of the TELLINGs that tell them."""
    found = {}
    for telling in sorted(told):
        # All TELLINGs of an OPTION begin with its shortest one, so that one comes first.
        found.setdefault(told[telling], telling)
    return found


def shortenings(told):
    """The shortenings among the TELLINGs, ascending."""
    return [telling for telling in sorted(told) if told[telling] != telling]
