"""GRAMMARs and FORMs that are drawn, always the same ones, and what the document says of FORMs, step by step."""

from itertools import product

from keptlines.forms import filled, holes
from keptlines.grammars import is_grammar
from keptlines.reading import meaning_by, read_by
from pool import KINDS

NAMES = ("ab", "abb", "ba", "bb", "a-b", "aab", "cc")
LETTERS = ("a", "b", "c", "5")
FEW_KINDS = (KINDS, KINDS, ("once",), ("once", "flag"), ("all", "flag"), ("maybe", "count"), ("last", "once"))


def draw_grammar(draw, most=4):
    """A GRAMMAR of up to so many OPTIONs whose NAMEs begin alike."""
    count = draw.randint(0, most)
    names, letters, kinds = draw.sample(NAMES, count), draw.sample(LETTERS, 4), draw.choice(FEW_KINDS)
    options = [(name, letters[n] if draw.random() < 0.7 else "", draw.choice(kinds)) for n, name in enumerate(names)]
    places = []
    for name in ("pa", "pb", "pc")[:draw.choice((0, 1, 1, 2, 2, 3))]:
        arity = draw.choice(("one", "may", "many"))
        places.append((name, "may" if "many" in [other for _, other in places] else arity))
    return (tuple(options), tuple(places), tuple(draw.random() < 0.6 for _ in range(3)))


def changed_option(draw, option):
    """The OPTION with another KIND or LETTER, or with a NAME that begins as its own."""
    name, letter, kind = option
    return draw.choice(((name, letter, draw.choice(KINDS)), (name, draw.choice(("", *LETTERS)), kind),
                        (name + "a", letter, kind)))


def changed_grammar(draw, one):
    """The GRAMMAR with one thing changed."""
    while True:
        options, places, modes = list(one[0]), list(one[1]), one[2]
        what = draw.randrange(6)
        if what == 0 and options:
            at = draw.randrange(len(options))
            options[at] = changed_option(draw, options[at])
        elif what == 1:
            options.append((draw.choice(NAMES + ("aba", "ccc", "zz")), draw.choice(("", "d", "5")), draw.choice(KINDS)))
        elif what == 2 and options:
            del options[draw.randrange(len(options))]
        elif what == 3:
            draw.shuffle(places)
        elif what == 4 and places:
            at = draw.randrange(len(places))
            places[at] = (places[at][0], draw.choice(("one", "may", "many")))
        else:
            modes = tuple(draw.random() < 0.5 for _ in range(3))
        found = (tuple(options), tuple(places), modes)
        if is_grammar(found):
            return found


def draw_text(draw, one):
    """A WORD that says something to the GRAMMAR, or nearly so."""
    names = [option[0] for option in one[0]] or ["ab"]
    letters = [option[1] for option in one[0] if option[1]] or ["a"]
    name = draw.choice(names)
    start = "--" + name[:draw.choice((1, 2, len(name), len(name)))]
    joined = "-" + draw.choice(letters) + draw.choice(("", "", draw.choice(letters)))
    return draw.choice(("", "", "--", "--", joined, joined, start, start + "=", start + "=a", "-", "-5", "a", "--="))


def draw_form(draw, one, holed):
    """A FORM of up to five PIECEs, so many of them with a HOLE, each with one of its own."""
    form = [draw_text(draw, one) for _ in range(draw.randint(max(holed, 1), 5))]
    names = draw.sample("xyz", holed)
    for at, name in zip(draw.sample(range(len(form)), holed), names):
        letter = draw.choice([option[1] for option in one[0]] or [""])
        form[at] = (draw.choice(("", "-" + letter, form[at])), name)
    return tuple(form)


def harmful_words(one, signs="ab-c"):
    """WORDs that do harm: empty, dashed, told, LETTERs, NUMBER WORDs, values."""
    found = ["", "-", "--", "-=", "-5", "--=", "a", "5", "="]
    found.extend("-" + "".join(word) for many in (1, 2) for word in product(signs, repeat=many))
    for name, letter, _ in one[0]:
        for told in (name, name[:1]):
            found.extend(start + told + end for start in ("", "-", "--") for end in ("", "=", "=a"))
        for _, other, _ in one[0]:
            found.extend(("-" + letter + other, letter + other, letter, letter + "=", "-" + letter + "a"))
    return list(dict.fromkeys(found))


def fill_piece(piece, words):
    """A value or a place word of a SHAPE with WORDs in it, a dict of them by HOLEs."""
    return piece if isinstance(piece, str) or piece == 1 else piece[0] + words[piece[1]]


def kinds_of(one):
    return {name: kind for name, _, kind in one[0]}


def fill_shape(one, told, words):
    """The MEANING that the SHAPE has with WORDs in it."""
    kinds = kinds_of(one)
    held = []
    for name, what in told[0]:
        if kinds[name] == "all":
            what = tuple(fill_piece(value, words) for value in what)
        elif kinds[name] != "count":
            what = fill_piece(what, words)
        held.append((name, what))
    return (tuple(held), tuple((name, tuple(fill_piece(word, words) for word in got)) for name, got in told[1]))


def filling_of(words):
    return tuple(sorted(words.items()))


# Letters that no NAME has, so that they are found again in a MEANING.
MARKS = {"x": "qxqqqqqqqqqqqqqq", "y": "qyqqqqqqqqqqqqqq", "z": "qzqqqqqqqqqqqqqq"}
PLAIN = ("a", "b", "c", "d", "ab", "ba", "abb", "bb", "cc", "e" * 80)


def marked_piece(word):
    """The pair (TEXT, HOLE) in the place of a WORD that ends with what marks the HOLE."""
    for hole, mark in MARKS.items():
        if isinstance(word, str) and word.endswith(mark):
            return (word[:-len(mark)], hole)
    return word


def shape_by_document(one, rules, form):
    """The SHAPE that a FORM with the HOLEs x, y and z has by [22], from the MEANINGs with PLAIN FILLINGs."""
    marks = {hole: MARKS[hole] for hole in holes(form)}
    line = filled(form, filling_of(marks))
    what = meaning_by(rules, line)
    if what is None:
        return None
    kinds = kinds_of(one)
    got = read_by(rules, line).got
    if any(kinds[name] in ("last", "maybe") and len(got[name]) > 1 for name in got):
        return None
    held = tuple((name, tuple(marked_piece(word) for word in told) if kinds[name] == "all" else marked_piece(told))
                 for name, told in what[0])
    told = (held, tuple((name, tuple(marked_piece(word) for word in words)) for name, words in what[1]))
    for words in product(PLAIN, repeat=len(marks)):
        words = dict(zip(sorted(marks), words))
        if meaning_by(rules, filled(form, filling_of(words))) != fill_shape(one, told, words):
            return None
    return told if all_stand(kinds, told, form) else None


def all_stand(kinds, told, form):
    """Whether each HOLE stands in the SHAPE as often as in the FORM."""
    found = []
    for name, what in told[0]:
        found.extend(what if kinds[name] == "all" else [what])
    for _, words in told[1]:
        found.extend(words)
    return (sorted(piece[1] for piece in found if isinstance(piece, tuple))
            == sorted(piece[1] for piece in form if isinstance(piece, tuple)))
