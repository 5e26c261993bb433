"""PIECEs of FORMs: WORDs, and pairs (TEXT, HOLE)."""

from keptlines.grammars import is_tuple_of
from keptlines.words import is_tag, is_word


def is_piece(thing):
    """Whether the thing, of any kind, is a PIECE."""
    if is_tuple_of(thing, 2):
        return is_word(thing[0]) and is_tag(thing[1])
    return is_word(thing)


def text_of(piece):
    """The WORD itself, or the TEXT ahead of the HOLE."""
    return piece if isinstance(piece, str) else piece[0]


def ahead_of(start, piece):
    """The PIECE with these SIGNs ahead of it."""
    return start + piece if isinstance(piece, str) else (start + piece[0], piece[1])


def size_of_pieces(pieces):
    """The SIZE of PIECEs, of any number and length."""
    return len(pieces) + sum([len(text_of(piece)) for piece in pieces])
