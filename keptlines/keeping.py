"""Whether one GRAMMAR KEEPS another one, for all LINEs, and which LINEs are parted if not."""

from keptlines.grammars import need_grammar
from keptlines.reading import LONE, VALUELESS, meaning_by
from keptlines.rules import Rules, rules_of_all, rules_of_some
from keptlines.words import size_of

# Six place words show what more of them do: a PLACE "many" has two of them then.
MOST_DEALT = 6


def keeps_kind(old, new, name):
    """Whether an OPTION of the old Rules has a KIND that keeps its MEANINGs."""
    kind = old.kinds[name]
    later = new.kinds.get(name)
    if kind == "once" and later == "last":
        return True
    if kind == "flag" and later == "maybe":
        # A LETTER joined to others would get them as its value.
        return old.own_letters[name] == ""
    return kind == later


def keeps_option(old, new, name):
    """Whether an OPTION of the old Rules has a KIND and a LETTER that keep its MEANINGs."""
    letter = old.own_letters[name]
    return keeps_kind(old, new, name) and (letter == "" or new.letters.get(letter) == name)


def lost_options(old, new):
    """A dict from the NAMEs of OPTIONs whose LINEs do not all keep their MEANINGs to their shortest TELLINGs."""
    told = old.least_tellings()
    later = new.least_tellings()
    # Where the shortest TELLING is kept, all of them are: no other NAME of the new Rules begins with it.
    return {
        name: told[name] for name in told
        if not keeps_option(old, new, name) or len(told[name]) < len(later[name])
    }


def keeps_numbers(old, new):
    """Whether the NUMBER WORDs that are place words in an open LINE stay such."""
    return new.minus or not old.places_numbers()


def keeps_mixing(old, new):
    """Whether the WORDs behind a place word are read in the same way."""
    if old.mixed == new.mixed:
        return True
    # Where options must stand ahead, a single place word ends the LINE anyway.
    return not old.takes_words(1 if old.mixed else 2)


def dealt_otherwise(old, new):
    """The least number of place words that the old Rules accept and the new ones deal otherwise, or None."""
    if old.places == new.places:
        return None
    for count in range(MOST_DEALT + 1):
        dealt = old.dealt(count)
        if dealt is not None and new.dealt(count) != dealt:
            return count
    return None


def keeps_by(old, new):
    """Whether the new Rules keep the old ones, by the Fact of [9]."""
    if not keeps_numbers(old, new) or not keeps_mixing(old, new):
        return False
    return not lost_options(old, new) and dealt_otherwise(old, new) is None


def number_line(rules):
    """The least LINE with a NUMBER WORD as its first place word."""
    return ("-0",) + ("",) * (rules.fewest - 1)


def closing_line(rules):
    """The least LINE with a "--" behind a place word."""
    # Behind a place word that closes the LINE, "--" is one, too.
    placed = 1 if rules.mixed else 2
    return ("", "--") + ("",) * (rules.fewest - placed)


def ways_of_telling(kind, telling):
    """The WORDs that give an OPTION of this KIND once by the TELLING, without a "=" and with it."""
    word = "--" + telling
    if kind in VALUELESS:
        return [(word,)]
    return [(word,) if kind in LONE else (word, ""), (word + "=",)]


def option_lines(rules, name, told):
    """The LINEs of [10] in which an OPTION is given; told: its TELLINGs, the shortest one first."""
    kind = rules.kinds[name]
    letter = rules.own_letters[name]
    found = [way for telling in told for way in ways_of_telling(kind, telling)]
    ways = ways_of_telling(kind, told[0])
    if letter != "":
        ways.append(("-" + letter,) if kind in LONE else ("-" + letter, ""))
        found.extend([ways[-1], ("-" + letter + letter,)])
    if kind != "once":
        found.extend([way + way for way in ways])
    return [words + ("",) * rules.fewest for words in found]


def parted_by(old, new):
    """A LEAST LINE that is parted by two Rules, or None."""
    lines = [] if keeps_numbers(old, new) else [number_line(old)]
    if not keeps_mixing(old, new):
        lines.append(closing_line(old))
    count = dealt_otherwise(old, new)
    if count is not None:
        lines.append(("",) * count)
    # The LINEs of the other OPTIONs are parted only where a shorter one is.
    lost = lost_options(old, new)
    for name in lost:
        lines.extend(option_lines(old, name, [lost[name]]))
    for line in sorted(lines, key=size_of):
        if meaning_by(old, line) != meaning_by(new, line):
            return line
    return None


def trials(rules):
    """The LINEs of [10] that are accepted."""
    lines = [("",) * count for count in range(MOST_DEALT + 1) if rules.deals(count)]
    if rules.places_numbers():
        lines.append(number_line(rules))
    if rules.takes_words(1 if rules.mixed else 2):
        lines.append(closing_line(rules))
    least = rules.least_tellings()
    for name in least:
        # No other NAME begins with a shortening, so all that is longer tells the same.
        told = [name[:end] for end in range(len(least[name]), len(name) + 1)]
        lines.extend(option_lines(rules, name, told))
    return lines


def keeps(old, new):
    """Whether the new GRAMMAR KEEPS the old one."""
    need_grammar(old)
    need_grammar(new)
    return keeps_by(Rules(old), Rules(new))


def parted(old, new):
    """A LEAST LINE that is PARTED by two GRAMMARs, or None."""
    need_grammar(old)
    need_grammar(new)
    return parted_by(Rules(old), Rules(new))


def touchstones(old):
    """LINEs that only GRAMMARs that KEEP this one all give the same MEANING."""
    need_grammar(old)
    return tuple(sorted(trials(Rules(old)), key=size_of))


def are_alike(one, other):
    """Whether each of two GRAMMARs KEEPS the other one."""
    need_grammar(one)
    need_grammar(other)
    first = Rules(one)
    second = Rules(other)
    return keeps_by(first, second) and keeps_by(second, first)


def keepers(grammars):
    """The pairs (M, N) of unlike numbers such that GRAMMAR N KEEPS GRAMMAR M."""
    rules = rules_of_all(grammars)
    pairs = []
    for older, old in enumerate(rules):
        for newer, new in enumerate(rules):
            if older != newer and keeps_by(old, new):
                pairs.append((older, newer))
    return pairs


def oldest(grammars):
    """The least number from which on the last GRAMMAR KEEPS each one."""
    rules = rules_of_some(grammars)
    number = len(rules) - 1
    while number > 0 and keeps_by(rules[number - 1], rules[-1]):
        number -= 1
    return number
