"""FORMs: command lines with HOLEs, what FILLINGs do to them, and how they are mended."""

from keptlines.errors import BadForm, BadQuestion
from keptlines.grammars import is_tuple_of, need_grammar
from keptlines.harming import harms_by
from keptlines.pieces import is_piece, size_of_pieces
from keptlines.reading import meaning_by
from keptlines.rules import Rules
from keptlines.shapes import read_form_by
from keptlines.spelling import least_by, least_lasting_by
from keptlines.words import is_word

MOST_PIECES = 20
MOST_HARMING = 2
# No OPTION has this LETTER, and no WORD with it is TOLD.
REFUSED = "-."


def need_form(thing):
    """The thing itself; BadForm if it is no FORM."""
    if not isinstance(thing, tuple) or len(thing) > MOST_PIECES:
        raise BadForm(())
    for number, piece in enumerate(thing):
        if not is_piece(piece):
            raise BadForm((number,))
    return thing


def holes_in_order(form):
    """The HOLE of each PIECE that has one."""
    return [piece[1] for piece in form if not isinstance(piece, str)]


def holes(form):
    """The HOLEs of a FORM, ascending, each once."""
    need_form(form)
    return tuple(sorted(set(holes_in_order(form))))


def form_size(form):
    """The SIZE of a FORM."""
    return size_of_pieces(need_form(form))


def is_filling(found, thing):
    """Whether the thing, of any kind, is a FILLING of a FORM with just these HOLEs, ascending."""
    if not is_tuple_of(thing, len(found)):
        return False
    for hole, pair in zip(found, thing):
        if not is_tuple_of(pair, 2) or not isinstance(pair[0], str):
            return False
        if pair[0] != hole or not is_word(pair[1]):
            return False
    return True


def filled_with(form, words):
    """The LINE that WORDs, a dict of them by HOLEs, make of a FORM."""
    return tuple([piece if isinstance(piece, str) else piece[0] + words[piece[1]] for piece in form])


def filled(form, filling):
    """The LINE that a FILLING makes of a FORM."""
    if not is_filling(holes(form), filling):
        raise BadQuestion("this is no FILLING of the FORM")
    return filled_with(form, dict(filling))


def reading_of(grammar, form):
    """The FormReading of a FORM by a GRAMMAR, which may be of any kind."""
    need_grammar(grammar)
    need_form(form)
    return read_form_by(Rules(grammar), form)


def shaped(grammar, form):
    """The FormReading of a FORM that has a SHAPE, and the SHAPE; BadQuestion of one that has none."""
    reading = reading_of(grammar, form)
    told = reading.shape()
    if told is None:
        raise BadQuestion("the FORM has no SHAPE")
    return reading, told


def shape(grammar, form):
    """The SHAPE of a FORM by a GRAMMAR, or None."""
    return reading_of(grammar, form).shape()


def is_sure(grammar, form):
    """Whether a FORM has a SHAPE and means it with every FILLING."""
    reading = reading_of(grammar, form)
    return reading.shape() is not None and reading.is_sure()


def form_lasts(grammar, form):
    """Whether a FORM is SURE, with the same SHAPE, by each LATER GRAMMAR."""
    reading = reading_of(grammar, form)
    return reading.shape() is not None and reading.is_sure() and reading.is_lasting()


def danger(grammar, form):
    """A LEAST DANGER of a FORM, or None of one that is SURE."""
    reading, _ = shaped(grammar, form)
    if reading.is_sure():
        return None
    # With nothing in all HOLEs, LETTERs that stand ahead of them lack their values. Else a WORD
    # of one sign does no harm, and "-=" is refused.
    worst = "" if reading.bare else reading.exposed[0]
    return tuple([(hole, "-=" if hole == worst else "") for hole in holes(form)])


def need_few_holes(form):
    """Raise BadQuestion of a FORM with too many HOLEs, or with a HOLE in two PIECEs."""
    found = holes_in_order(form)
    if len(found) > MOST_HARMING or len(set(found)) < len(found):
        raise BadQuestion("the FORM has more than 2 HOLEs, or one of them twice")


def harms(grammar, form):
    """A dict from the NAMEs of the HARMs of a FORM, ascending, to FILLINGs that bring them."""
    reading, told = shaped(grammar, form)
    need_few_holes(form)
    return {} if reading.is_sure() else harms_by(reading.rules, form, told)


def trial_fillings(found):
    """FILLINGs of these HOLEs with what may be refused, or taken as a value, and with nothing."""
    fillings = [()]
    for hole in found:
        fillings = [filling + ((hole, word),) for filling in fillings for word in (REFUSED, "")]
    return fillings


def refusal(grammar, form):
    """A FILLING with which the LINE is refused, or None."""
    reading, _ = shaped(grammar, form)
    need_few_holes(form)
    # A PIECE that is read is refused with the one WORD, or else does one of at most two things,
    # one of them with each WORD.
    for filling in trial_fillings(holes(form)):
        if meaning_by(reading.rules, filled_with(form, dict(filling))) is None:
            return filling
    return None


def mended(grammar, form):
    """A FORM of the least SIZE that is SURE and has the same SHAPE."""
    reading, told = shaped(grammar, form)
    return least_by(reading.rules, told)


def mended_lasting(grammar, form):
    """A FORM of the least SIZE that lasts and has the same SHAPE."""
    reading, told = shaped(grammar, form)
    return least_lasting_by(reading.rules, told)
