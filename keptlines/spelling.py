"""LINEs of the least SIZE that have a MEANING."""

from keptlines.errors import BadMeaning, BadQuestion
from keptlines.grammars import is_tuple_of, is_whole, need_grammar
from keptlines.pieces import ahead_of, text_of
from keptlines.reading import VALUELESS
from keptlines.rules import Rules, rules_of_some
from keptlines.words import is_dashed, is_number, is_word

MOST_COUNT = 40
MOST_VALUES = 20
MOST_PLACED = 40


def is_words(thing):
    """Whether the thing, of any kind, is a tuple of WORDs."""
    return isinstance(thing, tuple) and all([is_word(word) for word in thing])


def can_hold(kind, what):
    """Whether an OPTION of this KIND can hold what is told, of any kind."""
    if kind == "count":
        return is_whole(what) and 1 <= what <= MOST_COUNT
    if kind == "all":
        return is_words(what) and 1 <= len(what) <= MOST_VALUES
    if kind == "flag" or (kind == "maybe" and is_whole(what)):
        return is_whole(what) and what == 1
    return is_word(what)


def is_held(rules, item, ahead):
    """Whether the item, of any kind, can stand in HELD behind the NAME ahead of it."""
    if not is_tuple_of(item, 2):
        return False
    name, what = item
    if not isinstance(name, str) or name not in rules.kinds or name <= ahead:
        return False
    return can_hold(rules.kinds[name], what)


def is_filled(rules, thing):
    """Whether the tuple, of any items, is what dealing as many place words gives."""
    pairs = []
    for item in thing:
        if not is_tuple_of(item, 2):
            return False
        name, words = item
        if not isinstance(name, str) or not is_words(words):
            return False
        pairs.append((name, len(words)))
    count = sum([many for _, many in pairs])
    return count <= MOST_PLACED and rules.dealt(count) == pairs


def need_meaning_by(rules, thing):
    """The thing itself; BadMeaning if it is no MEANING by the Rules."""
    if not is_tuple_of(thing, 2) or not all([isinstance(half, tuple) for half in thing]):
        raise BadMeaning(())
    held, filled = thing
    # Each NAME is greater than the empty string.
    ahead = ""
    for number, item in enumerate(held):
        if not is_held(rules, item, ahead):
            raise BadMeaning(("held", number))
        ahead = item[0]
    if not is_filled(rules, filled):
        raise BadMeaning(("filled",))
    return thing


def is_meaning_by(rules, thing):
    """Whether the thing, of any kind, is a MEANING by the Rules."""
    try:
        need_meaning_by(rules, thing)
    except BadMeaning:
        return False
    return True


def need_meaning(grammar, thing):
    """The thing itself; BadMeaning if it is no MEANING by the GRAMMAR."""
    need_grammar(grammar)
    return need_meaning_by(Rules(grammar), thing)


def values_given(kind, what):
    """What an OPTION is given, one after another, to hold this."""
    if kind == "count":
        return (1,) * what
    return what if kind == "all" else (what,)


def pieces_giving(kind, letter, telling, value):
    """The fewest SIGNs that give an OPTION this value, or 1, whatever is put into a HOLE of it."""
    if is_whole(value):
        return ["-" + letter] if letter != "" else ["--" + telling]
    # A HOLE alone may get nothing: it is given as an empty WORD is.
    empty = text_of(value) == ""
    if letter == "" or (kind == "maybe" and empty):
        # Behind the LETTER of a maybe no value can be empty.
        return [ahead_of("--" + telling + "=", value)]
    return ["-" + letter, value] if empty else [ahead_of("-" + letter, value)]


def with_letters(joined, piece):
    """The PIECE, which begins with a LETTER behind "-", with further LETTERs ahead of that one."""
    text = "-" + joined + text_of(piece)[1:]
    return text if isinstance(piece, str) else (text, piece[1])


def with_joined(pieces, joined):
    """The PIECEs with these LETTERs of flags and counts, in the first one that takes them."""
    if joined == "":
        return pieces
    for at, piece in enumerate(pieces):
        # An empty value is not met here: the WORD of its LETTER stands ahead of it.
        if not text_of(piece).startswith("--"):
            return pieces[:at] + [with_letters(joined, piece)] + pieces[at + 1:]
    return ["-" + joined] + pieces


def options_spelled(rules, told, held):
    """PIECEs that give all OPTIONs; told is a dict from their NAMEs to TELLINGs."""
    joined = ""
    pieces = []
    for name, what in held:
        kind = rules.kinds[name]
        letter = rules.own_letters[name]
        if kind in VALUELESS and letter != "":
            joined += letter * what
        else:
            for value in values_given(kind, what):
                pieces.extend(pieces_giving(kind, letter, told[name], value))
    return with_joined(pieces, joined)


def is_exposed(rules, piece, lasting):
    """Whether an open line may not read the PIECE as place word, or not lastingly so."""
    if not isinstance(piece, str):
        return piece[0] == "" or piece[0].startswith("-")
    if not is_dashed(piece):
        return False
    return lasting or not (rules.minus and is_number(piece))


def needs_closing(rules, pieces, lasting):
    """Whether a "--" must stand ahead of the place words."""
    # Where options must stand ahead, the first place word protects the others.
    open_pieces = pieces if rules.mixed else pieces[:1]
    return any([is_exposed(rules, piece, lasting) for piece in open_pieces])


def spelled(all_rules, told, thing, lasting):
    """The least LINE, or FORM, that has a MEANING, or a SHAPE, by all of the Rules; told: TELLINGs by NAMEs."""
    held, filled = thing
    placed = [piece for _, pieces in filled for piece in pieces]
    line = options_spelled(all_rules[0], told, held)
    if any([needs_closing(rules, placed, lasting) for rules in all_rules]):
        line.append("--")
    return tuple(line + placed)


def least_by(rules, thing):
    """The least LINE that has a MEANING, or the least FORM that is SURE and has a SHAPE, by the Rules."""
    return spelled([rules], rules.least_tellings(), thing, False)


def least_lasting_by(rules, thing):
    """The least of the LINEs, or FORMs, that last, too."""
    return spelled([rules], {name: name for name, _ in thing[0]}, thing, True)


def least(grammar, meaning):
    """A LINE of the least SIZE that has the MEANING."""
    need_grammar(grammar)
    rules = Rules(grammar)
    need_meaning_by(rules, meaning)
    return least_by(rules, meaning)


def least_lasting(grammar, meaning):
    """A LINE of the least SIZE among those that last and have the MEANING."""
    need_grammar(grammar)
    rules = Rules(grammar)
    need_meaning_by(rules, meaning)
    return least_lasting_by(rules, meaning)


def agree(all_rules):
    """Whether no NAME has unlike LETTERs or unlike KINDs."""
    known = {}
    for rules in all_rules:
        for name in rules.kinds:
            same = (rules.own_letters[name], rules.kinds[name])
            if known.setdefault(name, same) != same:
                return False
    return True


def told_by_all(all_rules, names):
    """A dict from these NAMEs, which all Rules have, to the shortest of the TELLINGs that tell them by all Rules."""
    tables = [rules.least_tellings() for rules in all_rules]
    # Where a shorter TELLING is one, so is each longer one.
    return {name: max([least[name] for least in tables], key=len) for name in names}


def least_common(grammars, meaning):
    """A LINE of the least SIZE that has the MEANING by each GRAMMAR, or None."""
    all_rules = rules_of_some(grammars)
    if not agree(all_rules):
        raise BadQuestion("a NAME has unlike LETTERs or unlike KINDs")
    need_meaning_by(all_rules[0], meaning)
    if not all([is_meaning_by(rules, meaning) for rules in all_rules]):
        return None
    told = told_by_all(all_rules, [name for name, _ in meaning[0]])
    return spelled(all_rules, told, meaning, False)
