"""All LATER GRAMMARs: which GRAMMAR is one, and what they do to LINEs."""

from keptlines.errors import BadQuestion
from keptlines.grammars import MOST_OPTIONS, need_grammar
from keptlines.reading import read_by
from keptlines.rules import Rules
from keptlines.words import need_line


def stays(option, later):
    """Whether an OPTION has its place among the later ones, a dict by their NAMEs."""
    name, letter, kind = option
    if name not in later:
        return False
    _, new_letter, new_kind = later[name]
    return new_kind == kind and letter in ("", new_letter)


def is_later(old, new):
    """Whether the new GRAMMAR is LATER than the old one."""
    need_grammar(old)
    need_grammar(new)
    later = {option[0]: option for option in new[0]}
    return old[1:] == new[1:] and all([stays(option, later) for option in old[0]])


def free_name(rules, start):
    """A NAME that is not taken: the start and one sign more."""
    # At most 24 NAMEs are taken, fewer than there are letters.
    names = [start + sign for sign in "abcdefghijklmnopqrstuvwxyz"]
    return [name for name in names if name not in rules.kinds][0]


def breaking_option(rules, reading):
    """An OPTION that makes a line that does not last be read otherwise."""
    if reading.shortened is not None:
        return (free_name(rules, reading.shortened), "", "flag")
    return (free_name(rules, "a"), "0", "flag")


def breaker(grammar, line):
    """A LATER GRAMMAR with one OPTION more that breaks a LINE, or None if it lasts."""
    need_grammar(grammar)
    need_line(line)
    rules = Rules(grammar)
    reading = read_by(rules, line)
    if not reading.is_accepted():
        raise BadQuestion("the LINE is refused")
    if reading.is_lasting():
        return None
    options, places, modes = grammar
    if len(options) >= MOST_OPTIONS:
        raise BadQuestion("the GRAMMAR has no room for one OPTION more")
    return (options + (breaking_option(rules, reading),), places, modes)


def is_firm(grammar):
    """Whether all LINEs that a GRAMMAR accepts last."""
    need_grammar(grammar)
    rules = Rules(grammar)
    return not rules.roots() and not rules.places_numbers()
