"""Texts of LINEs, FORMs and GRAMMARs, and how they are read back."""

from keptlines.errors import BadText
from keptlines.forms import need_form
from keptlines.grammars import is_option, is_place, need_grammar
from keptlines.pieces import is_piece
from keptlines.words import is_word, need_line

EMPTY_WORD = "''"
NO_LETTER = "-"
MODE_NAMES = ("short", "mixed", "minus")


def piece_text(piece):
    """The text of a WORD or a PIECE."""
    if isinstance(piece, str):
        return piece if piece != "" else EMPTY_WORD
    return piece[0] + "{" + piece[1] + "}"


def line_text(line):
    """The text of a LINE."""
    return " ".join([piece_text(word) for word in need_line(line)])


def form_text(form):
    """The text of a FORM."""
    return " ".join([piece_text(piece) for piece in need_form(form)])


def option_row(option):
    """The row of an OPTION in the text of a GRAMMAR."""
    name, letter, kind = option
    return " ".join(["option", name, letter if letter != "" else NO_LETTER, kind])


def modes_row(modes):
    """The row of the MODES in the text of a GRAMMAR."""
    return " ".join(["modes"] + [name for name, is_on in zip(MODE_NAMES, modes) if is_on])


def grammar_text(grammar):
    """The text of a GRAMMAR."""
    options, places, modes = need_grammar(grammar)
    rows = [option_row(option) for option in options]
    rows.extend(["place " + name + " " + arity for name, arity in places])
    return "\n".join(rows + [modes_row(modes)])


def parts_of(text):
    """The texts of the WORDs or PIECEs in a text; BadText of what is no string."""
    if not isinstance(text, str):
        raise BadText(())
    return text.split(" ") if text != "" else []


def word_told(part):
    """The WORD that has this text, or None."""
    if part == EMPTY_WORD:
        return ""
    return part if part != "" and is_word(part) else None


def piece_told(part):
    """The PIECE that has this text, or None."""
    text, brace, rest = part.partition("{")
    if brace == "":
        return word_told(part)
    piece = (text, rest[:-1])
    return piece if rest.endswith("}") and is_piece(piece) else None


def all_told(things):
    """The things as a tuple; BadText of the first one that is None."""
    for number, thing in enumerate(things):
        if thing is None:
            raise BadText((number,))
    return tuple(things)


def read_line(text):
    """The LINE that has this text."""
    return need_line(all_told([word_told(part) for part in parts_of(text)]))


def read_form(text):
    """The FORM that has this text."""
    return need_form(all_told([piece_told(part) for part in parts_of(text)]))


def option_told(words):
    """The OPTION that the words of a row tell, without the first one, or None."""
    if len(words) != 3 or words[1] == "":
        return None
    name, sign, kind = words
    option = (name, sign if sign != NO_LETTER else "", kind)
    return option if is_option(option) else None


def place_told(words):
    """The PLACE that the words of a row tell, without the first one, or None."""
    return tuple(words) if is_place(tuple(words)) else None


def modes_told(words):
    """The MODES that the words of a row tell, without the first one, or None."""
    modes = tuple([name in words for name in MODE_NAMES])
    # Words that are none, stand twice or in another order give another row.
    return modes if [name for name in MODE_NAMES if name in words] == words else None


class GrammarReading:
    """What was read so far of the text of a GRAMMAR, row by row."""

    def __init__(self):
        self.options = []
        self.places = []
        self.modes = None

    def takes(self, row):
        """Read the next row; whether it can stand there."""
        first, *words = row.split(" ")
        if self.modes is not None:
            return False
        if first == "option":
            self.options.append(option_told(words))
            return not self.places and self.options[-1] is not None
        if first == "place":
            self.places.append(place_told(words))
            return self.places[-1] is not None
        self.modes = modes_told(words) if first == "modes" else None
        return self.modes is not None


def read_grammar(text):
    """The GRAMMAR that has this text."""
    if not isinstance(text, str):
        raise BadText(())
    rows = text.split("\n")
    reading = GrammarReading()
    for number, row in enumerate(rows):
        if not reading.takes(row):
            raise BadText((number,))
    if reading.modes is None:
        raise BadText((len(rows),))
    return need_grammar((tuple(reading.options), tuple(reading.places), reading.modes))
