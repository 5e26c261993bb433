"""GRAMMARs: what is one, and what it says of names and place words."""

from keptlines.errors import BadGrammar
from keptlines.words import FIGURES, is_letter, is_name

KINDS = ("flag", "count", "once", "last", "all", "maybe")
ARITIES = ("one", "may", "many")
MOST_OPTIONS = 24
MOST_PLACES = 5


def is_one_of(thing, words):
    """Whether the thing, of any kind, is one of the words."""
    # The kind comes first: an odd thing may say that it equals a word.
    return isinstance(thing, str) and thing in words


def is_tuple_of(thing, count):
    """Whether the thing, of any kind, is a tuple of so many items."""
    return isinstance(thing, tuple) and len(thing) == count


def is_whole(thing):
    """Whether the thing, of any kind, is an integer."""
    return isinstance(thing, int) and not isinstance(thing, bool)


def is_option(thing):
    """Whether the thing, of any kind, is an OPTION."""
    if not is_tuple_of(thing, 3):
        return False
    name, letter, kind = thing
    return is_name(name) and is_letter(letter) and is_one_of(kind, KINDS)


def is_place(thing):
    """Whether the thing, of any kind, is a PLACE."""
    if not is_tuple_of(thing, 2):
        return False
    name, arity = thing
    return is_name(name) and is_one_of(arity, ARITIES)


def need_options(options):
    """Raise BadGrammar if these are no OPTIONS."""
    if not isinstance(options, tuple) or len(options) > MOST_OPTIONS:
        raise BadGrammar(("options",))
    taken_names = {}
    taken_letters = {}
    for number, option in enumerate(options):
        if not is_option(option):
            raise BadGrammar(("options", number))
        name, letter, _ = option
        if name in taken_names or letter in taken_letters:
            raise BadGrammar(("options", number))
        taken_names[name] = True
        if letter != "":
            taken_letters[letter] = True


def need_places(places):
    """Raise BadGrammar if these are no PLACES."""
    if not isinstance(places, tuple) or len(places) > MOST_PLACES:
        raise BadGrammar(("places",))
    taken = {}
    has_many = False
    for number, place in enumerate(places):
        if not is_place(place):
            raise BadGrammar(("places", number))
        name, arity = place
        if name in taken or (has_many and arity == "many"):
            raise BadGrammar(("places", number))
        taken[name] = True
        has_many = has_many or arity == "many"


def need_modes(modes):
    """Raise BadGrammar if these are no MODES."""
    if not is_tuple_of(modes, 3) or not all([isinstance(mode, bool) for mode in modes]):
        raise BadGrammar(("modes",))


def need_grammar(thing):
    """The thing itself; BadGrammar if it is no GRAMMAR."""
    if not is_tuple_of(thing, 3):
        raise BadGrammar(())
    options, places, modes = thing
    need_options(options)
    need_places(places)
    need_modes(modes)
    return thing


def is_grammar(thing):
    """Whether the thing, of any kind, is a GRAMMAR."""
    try:
        need_grammar(thing)
    except BadGrammar:
        return False
    return True


def only_beginnings(names):
    """A dict from what only one of the names begins with to that name."""
    owners = {}
    for name in names:
        for end in range(1, len(name) + 1):
            owners.setdefault(name[:end], []).append(name)
    return {start: owners[start][0] for start in owners if len(owners[start]) == 1}


def told_names(grammar):
    """A dict from the TELLINGs of a GRAMMAR, in any order, to the NAMEs."""
    options, _, modes = grammar
    names = [option[0] for option in options]
    told = only_beginnings(names) if modes[0] else {}
    # A whole NAME tells its own OPTION, even if others begin with it.
    for name in names:
        told[name] = name
    return told


def tellings(grammar):
    """A dict from the TELLINGs, ascending, to the NAMEs that they tell."""
    need_grammar(grammar)
    told = told_names(grammar)
    return {telling: told[telling] for telling in sorted(told)}


def reads_numbers(grammar):
    """Whether a NUMBER WORD of an open line is a place word by a GRAMMAR."""
    options, _, modes = grammar
    letters = [option[1] for option in options if option[1] != ""]
    return modes[2] and not any([letter in FIGURES for letter in letters])


def count_arity(places, arity):
    """How many PLACEs have this ARITY."""
    return len([place for place in places if place[1] == arity])


def span(places):
    """The least and the greatest number of place words, None for no greatest."""
    fewest = count_arity(places, "one")
    if count_arity(places, "many") > 0:
        return fewest, None
    return fewest, fewest + count_arity(places, "may")


def numbers(grammar):
    """The least and the greatest number of place words, None for no greatest."""
    need_grammar(grammar)
    return span(grammar[1])


def shares(places, count):
    """How many of count place words each PLACE gets, or None if they are refused."""
    others = count - count_arity(places, "one")
    spare = others - count_arity(places, "may")
    if others < 0 or (spare > 0 and count_arity(places, "many") == 0):
        return None
    got = []
    for _, arity in places:
        if arity == "one":
            got.append(1)
        elif arity == "many":
            got.append(max(spare, 0))
        else:
            got.append(1 if others > 0 else 0)
            others -= 1
    return got


def with_options(grammar, options):
    """The GRAMMAR with these things, a tuple, behind its OPTIONs."""
    need_grammar(grammar)
    if not isinstance(options, tuple):
        raise BadGrammar(("options",))
    own, places, modes = grammar
    return need_grammar((own + options, places, modes))
