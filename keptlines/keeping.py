"""Whether one GRAMMAR KEEPS another one, for all LINEs, and which LINEs are parted if not."""

from keptlines.grammars import need_grammar
from keptlines.reading import meaning_by, read_by
from keptlines.rules import Rules, rules_of_all, rules_of_some, shortest
from keptlines.words import size

# Six place words show what more of them do: a PLACE "many" has two of them then.
MOST_DEALT = 6


def keeps_tellings(old, new):
    """Whether each TELLING tells an OPTION of the same NAME by the new Rules."""
    return all([new.told.get(telling) == old.told[telling] for telling in old.told])


def keeps_kind(old, new, name):
    """Whether an OPTION of the old Rules has a KIND that keeps its MEANINGs."""
    kind = old.kinds[name]
    later = new.kinds.get(name)
    if kind == "once" and later == "last":
        return True
    if kind == "flag" and later == "maybe":
        # A LETTER joined to others would get them as its value.
        return old.own_letters[name] == ""
    return kind == later


def keeps_letters(old, new):
    """Whether each LETTER of the old Rules has an OPTION of the same NAME."""
    return all([new.letters.get(letter) == old.letters[letter] for letter in old.letters])


def keeps_mixing(old, new):
    """Whether the WORDs behind a place word are read in the same way."""
    if old.mixed == new.mixed:
        return True
    # Where options must stand ahead, a single place word ends the LINE anyway.
    return not old.takes_words(1 if old.mixed else 2)


def keeps_dealing(old, new):
    """Whether all numbers of place words that are accepted are dealt in the same way."""
    for count in range(MOST_DEALT + 1):
        dealt = old.dealt(count)
        if dealt is not None and new.dealt(count) != dealt:
            return False
    return True


def keeps_by(old, new):
    """Whether the new Rules keep the old ones, by the Fact of [9]."""
    if not all([keeps_kind(old, new, name) for name in old.kinds]):
        return False
    if not keeps_letters(old, new) or not keeps_tellings(old, new):
        return False
    if old.places_numbers() and not new.minus:
        return False
    return keeps_mixing(old, new) and keeps_dealing(old, new)


def openings(rules):
    """The beginnings of the LINEs of [10]."""
    found = [("-0",), ("", "--")]
    found.extend([("",) * count for count in range(MOST_DEALT + 1)])
    for telling in rules.told:
        found.extend([("--" + telling,), ("--" + telling + "=",)])
    repeated = []
    for telling in shortest(rules.told).values():
        repeated.extend(["--" + telling, "--" + telling + "="])
    for letter in rules.letters:
        found.extend([("-" + letter,), ("-" + letter + letter,)])
        repeated.append("-" + letter)
    for word in repeated:
        found.extend([(word, word), (word, "", word, "")])
    return found


def completed(rules, words):
    """The words and as many empty ones as a LINE still needs, or None if it is refused."""
    reading = read_by(rules, words)
    needed = 0 if reading.awaited is None else 1
    needed += max(0, rules.fewest - len(reading.placed))
    line = words + ("",) * needed
    return line if read_by(rules, line).is_accepted() else None


def trials(rules):
    """The LINEs of [10] that are accepted, the least ones first."""
    lines = {completed(rules, words): True for words in openings(rules)}
    return sorted([line for line in lines if line is not None], key=size)


def parted_by(old, new):
    """A LEAST LINE that is parted by two Rules, or None."""
    if keeps_by(old, new):
        return None
    for line in trials(old):
        if meaning_by(old, line) != meaning_by(new, line):
            return line
    return None


def keeps(old, new):
    """Whether the new GRAMMAR KEEPS the old one."""
    need_grammar(old)
    need_grammar(new)
    return keeps_by(Rules(old), Rules(new))


def parted(old, new):
    """A LEAST LINE that is PARTED by two GRAMMARs, or None."""
    need_grammar(old)
    need_grammar(new)
    return parted_by(Rules(old), Rules(new))


def touchstones(old):
    """LINEs that only GRAMMARs that KEEP this one all give the same MEANING."""
    need_grammar(old)
    return tuple(trials(Rules(old)))


def are_alike(one, other):
    """Whether each of two GRAMMARs KEEPS the other one."""
    need_grammar(one)
    need_grammar(other)
    first = Rules(one)
    second = Rules(other)
    return keeps_by(first, second) and keeps_by(second, first)


def keepers(grammars):
    """The pairs (M, N) of unlike numbers such that GRAMMAR N KEEPS GRAMMAR M."""
    rules = rules_of_all(grammars)
    pairs = []
    for older, old in enumerate(rules):
        for newer, new in enumerate(rules):
            if older != newer and keeps_by(old, new):
                pairs.append((older, newer))
    return pairs


def oldest(grammars):
    """The least number from which on the last GRAMMAR KEEPS each one."""
    rules = rules_of_some(grammars)
    number = len(rules) - 1
    while number > 0 and keeps_by(rules[number - 1], rules[-1]):
        number -= 1
    return number
