"""How a LINE is read by a GRAMMAR, and whether it lasts."""

from keptlines.grammars import need_grammar
from keptlines.rules import Rules
from keptlines.words import is_dashed, is_number, need_line

# The KINDs that never have a value, and those that can do without one.
VALUELESS = ("flag", "count")
LONE = ("flag", "count", "maybe")


class Reading:
    """What was read so far of one line, WORD by WORD, by the Rules of a GRAMMAR."""

    def __init__(self, rules):
        self.rules = rules
        self.closed = False
        self.awaited = None
        self.refused = False
        # What a LATER GRAMMAR may read otherwise: a shortening, and a NUMBER WORD.
        self.shortened = None
        self.numbered = False
        self.got = {}
        self.placed = []

    def is_accepted(self):
        """Whether the line is ACCEPTED if it ends here."""
        if self.refused or self.awaited is not None:
            return False
        return self.rules.deals(len(self.placed))

    def is_lasting(self):
        """Whether no LATER GRAMMAR reads any WORD otherwise."""
        return self.shortened is None and not self.numbered

    def read_word(self, word):
        """Read the next WORD, of any length."""
        if self.awaited is not None:
            name = self.awaited
            self.awaited = None
            self.give(name, word)
        elif self.closed:
            self.placed.append(word)
        elif not is_dashed(word):
            self.read_place_word(word)
        elif word == "--":
            self.closed = True
        elif word.startswith("--"):
            self.read_long(word)
        elif self.rules.minus and is_number(word):
            self.numbered = True
            self.read_place_word(word)
        else:
            self.read_letters(word)

    def read_place_word(self, word):
        """Read a place word while the line is not closed."""
        self.placed.append(word)
        if not self.rules.mixed:
            self.closed = True

    def tell(self, told):
        """The NAME of the OPTION that this tells; None, and the line is refused, if there is none."""
        name = self.rules.tells(told)
        if name is None:
            self.refused = True
        elif told != name:
            self.shortened = told
        return name

    def read_long(self, word):
        """Read a WORD that begins with "--" and tells an OPTION."""
        told, equals, value = word[2:].partition("=")
        name = self.tell(told)
        if name is None:
            return
        if equals == "":
            self.give_or_await(name)
        elif self.rules.kinds[name] in VALUELESS:
            self.refused = True
        else:
            self.give(name, value)

    def read_letters(self, word):
        """Read a WORD of "-" and LETTERs, perhaps with a value behind them."""
        for at in range(1, len(word)):
            if word[at] not in self.rules.letters:
                self.refused = True
                return
            name = self.rules.letters[word[at]]
            rest = word[at + 1:]
            if self.rules.kinds[name] in VALUELESS:
                self.give(name, 1)
            elif rest == "":
                self.give_or_await(name)
            else:
                self.give(name, rest)
                return

    def give_or_await(self, name):
        """Note that an OPTION stands in the line without a value of its own."""
        if self.rules.kinds[name] in LONE:
            self.give(name, 1)
        else:
            self.awaited = name

    def give(self, name, what):
        """Note that an OPTION is given: what is its value, or 1."""
        got = self.got.setdefault(name, [])
        got.append(what)
        if self.rules.kinds[name] == "once" and len(got) > 1:
            self.refused = True

    def what_is_held(self, name):
        """What a MEANING holds of an OPTION that was given."""
        kind = self.rules.kinds[name]
        got = self.got[name]
        if kind == "count":
            return len(got)
        if kind == "all":
            return tuple(got)
        return got[-1]

    def held_pairs(self):
        """The first half of the MEANING of what was read."""
        return tuple([(name, self.what_is_held(name)) for name in sorted(self.got)])

    def filled_pairs(self):
        """The second half of the MEANING of what was read."""
        pairs = []
        start = 0
        for name, many in self.rules.dealt(len(self.placed)):
            pairs.append((name, tuple(self.placed[start:start + many])))
            start += many
        return tuple(pairs)


def read_by(rules, words):
    """The Reading of a line, of any length; it ends where the line is refused."""
    reading = Reading(rules)
    for word in words:
        if reading.refused:
            return reading
        reading.read_word(word)
    return reading


def meaning_by(rules, words):
    """The MEANING of a line, of any length, or None if it is refused."""
    reading = read_by(rules, words)
    if not reading.is_accepted():
        return None
    return reading.held_pairs(), reading.filled_pairs()


def meaning(grammar, line):
    """The MEANING of a LINE by a GRAMMAR, or None if it is refused."""
    need_grammar(grammar)
    need_line(line)
    return meaning_by(Rules(grammar), line)


def lasts(grammar, line):
    """Whether a LINE is ACCEPTED by a GRAMMAR and LASTS."""
    need_grammar(grammar)
    need_line(line)
    reading = read_by(Rules(grammar), line)
    return reading.is_accepted() and reading.is_lasting()
