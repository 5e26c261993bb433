"""How a LINE is read by a GRAMMAR, and whether it lasts."""

from keptlines.grammars import need_grammar, reads_numbers, shares, told_names
from keptlines.words import is_dashed, is_number, need_line

# The KINDs that never have a value, and those that can do without one.
VALUELESS = ("flag", "count")
LONE = ("flag", "count", "maybe")


class Reading:
    """What one GRAMMAR has read so far, WORD by WORD."""

    def __init__(self, grammar):
        options, places, modes = grammar
        self.told = told_names(grammar)
        self.kinds = {name: kind for name, _, kind in options}
        self.letters = {letter: name for name, letter, _ in options if letter != ""}
        self.places = places
        self.mixed = modes[1]
        self.minus = reads_numbers(grammar)
        self.closed = False
        self.awaited = None
        self.refused = False
        self.lasting = True
        self.got = {}
        self.placed = []

    def read_word(self, word):
        """Read the next WORD, of any length."""
        if self.awaited is not None:
            name = self.awaited
            self.awaited = None
            self.give(name, word)
        elif self.closed:
            self.placed.append(word)
        elif not is_dashed(word):
            self.read_place_word(word)
        elif word == "--":
            self.closed = True
        elif word.startswith("--"):
            self.read_long(word)
        elif self.minus and is_number(word):
            # A LATER GRAMMAR may have one of the figures as a LETTER.
            self.lasting = False
            self.read_place_word(word)
        else:
            self.read_letters(word)

    def read_place_word(self, word):
        """Read a place word while the line is not closed."""
        self.placed.append(word)
        if not self.mixed:
            self.closed = True

    def read_long(self, word):
        """Read a WORD that begins with "--" and tells an OPTION."""
        told, equals, value = word[2:].partition("=")
        if told not in self.told:
            self.refused = True
            return
        name = self.told[told]
        if told != name:
            # A LATER GRAMMAR may have a NAME that makes the shortening tell nothing.
            self.lasting = False
        if equals == "":
            self.give_or_await(name)
        elif self.kinds[name] in VALUELESS:
            self.refused = True
        else:
            self.give(name, value)

    def read_letters(self, word):
        """Read a WORD of "-" and LETTERs, perhaps with a value behind them."""
        for at in range(1, len(word)):
            if word[at] not in self.letters:
                self.refused = True
                return
            name = self.letters[word[at]]
            rest = word[at + 1:]
            if self.kinds[name] in VALUELESS:
                self.give(name, 1)
            elif rest == "":
                self.give_or_await(name)
            else:
                self.give(name, rest)
                return

    def give_or_await(self, name):
        """Note that an OPTION stands in the line without a value of its own."""
        if self.kinds[name] in LONE:
            self.give(name, 1)
        else:
            self.awaited = name

    def give(self, name, what):
        """Note that an OPTION is given: what is its value, or 1."""
        got = self.got.setdefault(name, [])
        got.append(what)
        if self.kinds[name] == "once" and len(got) > 1:
            self.refused = True

    def what_is_held(self, name):
        """What a MEANING holds of an OPTION that was given."""
        kind = self.kinds[name]
        got = self.got[name]
        if kind == "count":
            return len(got)
        if kind == "all":
            return tuple(got)
        return got[-1]

    def held_pairs(self):
        """The first half of the MEANING of what was read."""
        return tuple([(name, self.what_is_held(name)) for name in sorted(self.got)])

    def filled_pairs(self):
        """The second half of the MEANING of what was read."""
        pairs = []
        start = 0
        for place, many in zip(self.places, shares(self.places, len(self.placed))):
            if many > 0:
                pairs.append((place[0], tuple(self.placed[start:start + many])))
            start += many
        return tuple(pairs)


def reading_of(grammar, words):
    """The Reading of a line, of any length, or None if it is refused."""
    reading = Reading(grammar)
    for word in words:
        reading.read_word(word)
        if reading.refused:
            return None
    if reading.awaited is not None or shares(reading.places, len(reading.placed)) is None:
        return None
    return reading


def meaning(grammar, line):
    """The MEANING of a LINE by a GRAMMAR, or None if it is refused."""
    need_grammar(grammar)
    need_line(line)
    reading = reading_of(grammar, line)
    if reading is None:
        return None
    return reading.held_pairs(), reading.filled_pairs()


def lasts(grammar, line):
    """Whether a LINE is ACCEPTED by a GRAMMAR and LASTS."""
    need_grammar(grammar)
    need_line(line)
    reading = reading_of(grammar, line)
    return reading is not None and reading.lasting
