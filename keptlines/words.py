"""SIGNs, WORDs, NAMEs and LINEs."""

from keptlines.errors import BadLine

MOST_SIGNS = 80
MOST_WORDS = 80
LEAST_NAME = 2
MOST_NAME = 12
MOST_TAG = 8
FIGURES = "0123456789"
LETTERS = "abcdefghijklmnopqrstuvwxyz0123456789"
TAG_SIGNS = "abcdefghijklmnopqrstuvwxyz"
NAME_SIGNS = "abcdefghijklmnopqrstuvwxyz-"
SIGNS = "abcdefghijklmnopqrstuvwxyz0123456789-=."


def made_of(text, signs):
    """Whether each sign of the text is one of the signs."""
    # What is left, if anything, begins with a sign that is none of them.
    return text.strip(signs) == ""


def is_word(thing):
    """Whether the thing, of any kind, is a WORD."""
    return isinstance(thing, str) and len(thing) <= MOST_SIGNS and made_of(thing, SIGNS)


def is_name(thing):
    """Whether the thing, of any kind, is a NAME."""
    if not isinstance(thing, str) or not LEAST_NAME <= len(thing) <= MOST_NAME:
        return False
    return made_of(thing, NAME_SIGNS) and thing[0] != "-" and thing[-1] != "-"


def is_letter(thing):
    """Whether the thing, of any kind, can be the LETTER of an OPTION."""
    return isinstance(thing, str) and len(thing) <= 1 and made_of(thing, LETTERS)


def is_tag(thing):
    """Whether the thing, of any kind, can name a HOLE or a script."""
    return isinstance(thing, str) and 1 <= len(thing) <= MOST_TAG and made_of(thing, TAG_SIGNS)


def is_dashed(word):
    """Whether the WORD is a DASHED WORD."""
    return word.startswith("-") and word != "-"


def is_number(word):
    """Whether the WORD is a NUMBER WORD."""
    return is_dashed(word) and made_of(word[1:], FIGURES)


def need_line(thing):
    """The thing itself; BadLine if it is no LINE."""
    if not isinstance(thing, tuple) or len(thing) > MOST_WORDS:
        raise BadLine(())
    for number, word in enumerate(thing):
        if not is_word(word):
            raise BadLine((number,))
    return thing


def size_of(words):
    """The SIZE of WORDs that were looked at, of any number and length."""
    return len(words) + len("".join(words))


def size(line):
    """The SIZE of a LINE."""
    return size_of(need_line(line))
