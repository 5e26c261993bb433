"""How a FORM is read by a GRAMMAR with all PLAIN FILLINGs at once, and the SHAPE that it has."""

from keptlines.reading import VALUELESS, Reading

# The KINDs of which a FORM with a SHAPE has no OPTION twice.
LONELY = ("last", "maybe")


class FormReading(Reading):
    """What was read so far of one FORM, PIECE by PIECE, by the Rules of a GRAMMAR."""

    def __init__(self, rules):
        super().__init__(rules)
        # The HOLEs of the two kinds of DOUBTFUL PIECEs, of [23].
        self.exposed = []
        self.bare = []

    def read_piece(self, piece):
        """Read the next PIECE; the line is refused if its reading depends on the letters in its HOLE."""
        if self.awaited is not None or self.closed or isinstance(piece, str):
            # Where a WORD is taken whatever it is, a pair is, too.
            self.read_word(piece)
            return
        text, hole = piece
        if not text.startswith("-"):
            if text == "":
                self.exposed.append(hole)
            self.read_place_word(piece)
        elif text.startswith("--"):
            self.read_long_with(text, hole)
        else:
            self.read_letters_with(text, hole)

    def read_long_with(self, text, hole):
        """Read a PIECE whose TEXT begins with "--"."""
        told, equals, value = text[2:].partition("=")
        # Without a "=" the HOLE is part of what is TOLD, and most letters tell nothing.
        name = self.tell(told) if equals != "" else None
        if name is None or self.rules.kinds[name] in VALUELESS:
            self.refused = True
        else:
            self.give(name, (value, hole))

    def read_letters_with(self, text, hole):
        """Read a PIECE whose TEXT begins with one "-"."""
        for at in range(1, len(text)):
            name = self.rules.letters.get(text[at])
            if name is None:
                self.refused = True
                return
            if self.rules.kinds[name] not in VALUELESS:
                value = text[at + 1:]
                if value == "":
                    self.bare.append(hole)
                self.give(name, (value, hole))
                return
            self.give(name, 1)
        # There are more letters than OPTIONs, so some of them in the HOLE are no LETTERs.
        self.refused = True

    def shape(self):
        """The SHAPE of what was read, or None."""
        if not self.is_accepted():
            return None
        for name in self.got:
            if self.rules.kinds[name] in LONELY and len(self.got[name]) > 1:
                return None
        return self.held_pairs(), self.filled_pairs()

    def is_sure(self):
        """Whether what has a SHAPE is SURE, by the Fact of [23]."""
        return not self.exposed and not self.bare


def read_form_by(rules, form):
    """The FormReading of a FORM, of any length; it ends where the line is refused."""
    reading = FormReading(rules)
    for piece in form:
        if reading.refused:
            return reading
        reading.read_piece(piece)
    return reading


def state_by(rules, form, kept):
    """The state of a script by the Rules of the last version; kept: the SHAPE that it is kept with."""
    reading = read_form_by(rules, form)
    if reading.shape() != kept:
        return "broken"
    if not reading.is_sure():
        return "doubtful"
    return "lasts" if reading.is_lasting() else "sure"
