"""WISHes: which OPTIONs a GRAMMAR can get, alone and together, and which NAMEs are left."""

from keptlines.errors import BadQuestion
from keptlines.grammars import MOST_OPTIONS, is_option, is_tuple_of, is_whole, need_grammar, with_options
from keptlines.keeping import parted
from keptlines.rules import Rules
from keptlines.words import FIGURES, MOST_NAME, NAME_SIGNS, is_letter, is_name, made_of

MOST_WISHES = 16


def need_wishes(grammar, wishes):
    """Raise BadGrammar or BadQuestion if these are no WISHes that the GRAMMAR has room for."""
    need_grammar(grammar)
    if not isinstance(wishes, tuple) or len(wishes) > MOST_WISHES:
        raise BadQuestion("there is no tuple of at most 16 WISHes")
    if not all([is_option(wish) for wish in wishes]):
        raise BadQuestion("a WISH is no OPTION")
    if len(grammar[0]) + len(wishes) > MOST_OPTIONS:
        raise BadQuestion("the GRAMMAR has no room for so many WISHes")


def is_taken(rules, wish):
    """Whether an OPTION of the Rules has the NAME or the LETTER of the WISH."""
    name, letter, _ = wish
    return name in rules.kinds or letter in rules.letters


def begins_with(name, starts):
    """Whether the name begins with one of these, or is one."""
    return any([name.startswith(start) for start in starts])


def fits_alone(rules, shortened, wish):
    """Whether the WISH FITs if it is the only one, by the Fact of [18]; shortened: the ROOTs."""
    name, letter, _ = wish
    if is_taken(rules, wish) or begins_with(name, shortened):
        return False
    return letter == "" or letter not in FIGURES or not rules.places_numbers()


def fitting(grammar, wishes):
    """The numbers of the WISHes that FIT alone."""
    rules = Rules(grammar)
    shortened = rules.roots()
    return [number for number, wish in enumerate(wishes) if fits_alone(rules, shortened, wish)]


def are_unlike(texts):
    """Whether no two of the texts are the same, but empty ones."""
    told = [text for text in texts if text != ""]
    return len(set(told)) == len(told)


def fit_together(grammar, wishes):
    """Whether all the WISHes FIT, in a GRAMMAR and a tuple that were looked at."""
    if len(fitting(grammar, wishes)) < len(wishes):
        return False
    return are_unlike([wish[0] for wish in wishes]) and are_unlike([wish[1] for wish in wishes])


class Pairing:
    """Which NAME of the WISHes that FIT alone gets which LETTER, as many as can be."""

    def __init__(self, grammar, wishes):
        # The NAMEs with a WISH that asks for no LETTER, with its number: it is in no other's way.
        self.single = {}
        # The LETTERs that the other NAMEs can have, with the numbers of the WISHes.
        self.offers = {}
        # The NAMEs that have got the LETTERs.
        self.owners = {}
        numbers = fitting(grammar, wishes)
        for number in numbers:
            if wishes[number][1] == "":
                self.single.setdefault(wishes[number][0], number)
        for number in numbers:
            name, letter, _ = wishes[number]
            if name not in self.single:
                self.offers.setdefault(name, {}).setdefault(letter, number)
        for name in self.offers:
            self.find_letter(name, {})

    def find_letter(self, name, tried):
        """Whether the NAME gets a LETTER, perhaps one whose owner finds another one."""
        for letter in self.offers[name]:
            if letter in tried:
                continue
            tried[letter] = True
            if letter not in self.owners or self.find_letter(self.owners[letter], tried):
                self.owners[letter] = name
                return True
        return False

    def chosen(self):
        """The numbers of the WISHes of a GREATEST choice."""
        numbers = list(self.single.values())
        for letter in self.owners:
            numbers.append(self.offers[self.owners[letter]][letter])
        return sorted(numbers)

    def reached(self):
        """The NAMEs without a LETTER, those that hold what such ones ask for, and so on."""
        held = list(self.owners.values())
        waiting = [name for name in self.offers if name not in held]
        names = {}
        letters = {}
        while waiting:
            name = waiting.pop()
            names[name] = True
            for letter in self.offers[name]:
                letters[letter] = True
                if self.owners[letter] not in names:
                    waiting.append(self.owners[letter])
        return names, letters

    def covering(self):
        """The NAMEs and the LETTERs of a COVER that has as many as the choice."""
        # The theorem of Koenig: the LETTERs that are reached, the NAMEs that are not.
        reached_names, reached_letters = self.reached()
        names = list(self.single) + [name for name in self.offers if name not in reached_names]
        return tuple(sorted(names)), tuple(sorted(reached_letters))


def fits(grammar, wishes):
    """Whether all the WISHes FIT the GRAMMAR together."""
    need_wishes(grammar, wishes)
    return fit_together(grammar, wishes)


def choice(grammar, wishes):
    """The numbers of the WISHes of a GREATEST choice, ascending."""
    need_wishes(grammar, wishes)
    return tuple(Pairing(grammar, wishes).chosen())


def cover(grammar, wishes):
    """The NAMEs and the LETTERs of a COVER with the fewest, ascending."""
    need_wishes(grammar, wishes)
    return Pairing(grammar, wishes).covering()


def ascends(things):
    """Whether each of the numbers or strings is greater than the one ahead of it."""
    return all([low < high for low, high in zip(things, things[1:])])


def is_choice(grammar, wishes, thing):
    """Whether the thing, of any kind, tells the numbers of WISHes that FIT together."""
    need_wishes(grammar, wishes)
    if not isinstance(thing, tuple):
        return False
    if not all([is_whole(number) and 0 <= number < len(wishes) for number in thing]):
        return False
    return ascends(thing) and fit_together(grammar, tuple([wishes[number] for number in thing]))


def is_cover(grammar, wishes, thing):
    """Whether the thing, of any kind, is a COVER of the WISHes."""
    need_wishes(grammar, wishes)
    if not is_tuple_of(thing, 2) or not all([isinstance(half, tuple) for half in thing]):
        return False
    names, letters = thing
    if not all([is_name(name) for name in names]):
        return False
    if not all([is_letter(letter) and letter != "" for letter in letters]):
        return False
    if not ascends(names) or not ascends(letters):
        return False
    found = [wishes[number] for number in fitting(grammar, wishes)]
    return all([name in names or letter in letters for name, letter, _ in found])


def why_not(grammar, wish):
    """None if the WISH FITs; "taken", or a LEAST LINE that would be parted."""
    need_grammar(grammar)
    if not is_option(wish):
        raise BadQuestion("the WISH is no OPTION")
    if len(grammar[0]) >= MOST_OPTIONS:
        raise BadQuestion("the GRAMMAR has no room for one OPTION more")
    if is_taken(Rules(grammar), wish):
        return "taken"
    return parted(grammar, with_options(grammar, (wish,)))


def roots(grammar):
    """The ROOTs of the GRAMMAR, ascending."""
    need_grammar(grammar)
    return tuple(Rules(grammar).roots())


def is_start(thing):
    """Whether the thing, of any kind, can be what a NAME is to begin with."""
    if not isinstance(thing, str) or len(thing) > MOST_NAME:
        return False
    return made_of(thing, NAME_SIGNS) and not thing.startswith("-")


def least_name(grammar, start):
    """The shortest NAME that begins with start and FITs without a LETTER, or None."""
    need_grammar(grammar)
    if not is_start(start):
        raise BadQuestion("no NAME begins with this")
    rules = Rules(grammar)
    shortened = rules.roots()
    starts = [start]
    for _ in range(len(start), MOST_NAME + 1):
        # At most 24 NAMEs are in the way, fewer than there are letters, so this ends soon.
        starts = [name for name in starts if not begins_with(name, shortened)]
        for name in starts:
            if is_name(name) and name not in rules.kinds:
                return name
        starts = [name + sign for name in starts for sign in NAME_SIGNS]
    return None
