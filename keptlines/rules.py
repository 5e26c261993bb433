"""What a GRAMMAR says, laid out for many questions about it."""

from keptlines.errors import BadGrammar
from keptlines.grammars import need_grammar, reads_numbers, shares, span


def shared(one, other):
    """With how many of the same SIGNs two NAMEs begin."""
    count = 0
    for sign, same in zip(one, other):
        if sign != same:
            return count
        count += 1
    return count


class Rules:
    """What one GRAMMAR says; nothing is changed after it was made."""

    def __init__(self, grammar):
        options, places, modes = grammar
        self.kinds = {name: kind for name, _, kind in options}
        self.own_letters = {name: letter for name, letter, _ in options}
        self.letters = {letter: name for name, letter, _ in options if letter != ""}
        self.places = places
        self.short = modes[0]
        self.mixed = modes[1]
        self.minus = reads_numbers(grammar)
        self.fewest, self.most = span(places)

    def tells(self, told):
        """The NAME of the OPTION that this tells, or None."""
        if told in self.kinds:
            return told
        if not self.short or told == "":
            return None
        found = [name for name in self.kinds if name.startswith(told)]
        return found[0] if len(found) == 1 else None

    def least_tellings(self):
        """A dict from the NAMEs of the OPTIONs to the shortest of their TELLINGs."""
        if not self.short:
            return {name: name for name in self.kinds}
        names = sorted(self.kinds)
        needed = {name: 1 for name in names}
        # In order, no NAME shares more with a NAME than one of its two neighbours does.
        for low, high in zip(names, names[1:]):
            needed[high] = shared(low, high) + 1
            needed[low] = max(needed[low], needed[high])
        return {name: name[:needed[name]] for name in self.kinds}

    def roots(self):
        """The ROOTs, ascending: the least shortenings of the OPTIONs that have one."""
        least = self.least_tellings()
        return sorted([least[name] for name in least if least[name] != name])

    def takes_words(self, count):
        """Whether a LINE with so many place words, or more, is accepted."""
        return self.most is None or self.most >= count

    def deals(self, count):
        """Whether just so many place words are accepted."""
        return count >= self.fewest and self.takes_words(count)

    def places_numbers(self):
        """Whether some accepted LINE has a NUMBER WORD as place word while it is open."""
        return self.minus and self.takes_words(1)

    def dealt(self, count):
        """The pairs of the NAMEs of PLACEs and how many of count place words they get."""
        got = shares(self.places, count)
        if got is None:
            return None
        return [(place[0], many) for place, many in zip(self.places, got) if many > 0]


def rules_of_all(grammars):
    """The Rules of each GRAMMAR of a tuple; BadGrammar of the first thing that is none."""
    if not isinstance(grammars, tuple):
        raise BadGrammar(())
    return [Rules(need_grammar(grammar)) for grammar in grammars]


def rules_of_some(grammars):
    """The Rules of each GRAMMAR of a tuple that is not empty."""
    found = rules_of_all(grammars)
    if not found:
        raise BadGrammar(())
    return found
