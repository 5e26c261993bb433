"""Small GRAMMARs and short LINEs, over which facts of the document are tried."""

from itertools import product

from samples import grammar

ONE_PLACE = (("file", "may"),)
KINDS = ("flag", "count", "once", "last", "all", "maybe")


def all_lines(most, signs):
    """All LINEs of these SIGNs with a SIZE up to this one, the least ones first."""
    words = {1: [""]}
    for size in range(2, most + 1):
        words[size] = [word + sign for word in words[size - 1] for sign in signs]
    lines = {0: [()]}
    for size in range(1, most + 1):
        lines[size] = [(word,) + line for one in range(1, size + 1) for word in words[one]
                       for line in lines[size - one]]
    return [line for size in range(most + 1) for line in lines[size]]


def lines_of(words, most):
    """All LINEs of up to so many of these WORDs."""
    return [line for many in range(most + 1) for line in product(words, repeat=many)]


def line_size(line):
    """The SIZE of a LINE, counted apart from the program."""
    return len(line) + len("".join(line))


def grammars_of_one_option():
    """Each KIND, with and without a LETTER, of one OPTION."""
    for kind, letter in product(KINDS, ("", "a")):
        yield grammar([("ab", letter, kind)], ONE_PLACE)


def grammars_of_names():
    """NAMEs that are the beginnings of others, LETTERs that move, and new OPTIONs."""
    yield grammar([("ab", "b", "flag")], ONE_PLACE)
    yield grammar([("abb", "", "flag")], ONE_PLACE)
    yield grammar([("ab", "", "flag"), ("abb", "", "flag")], ONE_PLACE)
    yield grammar([("ab", "", "flag"), ("abb", "", "flag")], ONE_PLACE, (False, True, True))
    yield grammar([("abb", "a", "flag"), ("ab", "", "last")], ONE_PLACE)
    yield grammar([("ab", "a", "flag"), ("ba", "", "flag")], ONE_PLACE)
    yield grammar([("ab", "a", "flag"), ("ba", "b", "maybe")], ONE_PLACE)
    yield grammar([("ab", "a", "flag"), ("ba", "b", "count")], ONE_PLACE)
    yield grammar([("ab", "a", "flag"), ("a-b", "b", "count"), ("ba", "", "once")], ONE_PLACE)
    yield grammar([("ab", "a", "flag"), ("ba", "5", "flag")], ONE_PLACE)
    yield grammar([("ab", "5", "flag"), ("ba", "0", "last")], ONE_PLACE)
    yield grammar([("ab", "5", "flag"), ("ba", "0", "last")], ())
    yield grammar([("ab", "a", "last"), ("ba", "b", "all")], ())
    yield grammar([("ba", "b", "all"), ("ab", "a", "once")], ())


def grammars_of_modes():
    """All MODES, without PLACES and with PLACES that get up to one and two place words."""
    places = ((), (("aa", "one"),), (("aa", "one"), ("bb", "may")))
    for own, modes in product(places, product((True, False), repeat=3)):
        yield grammar([("ab", "a", "flag")], own, modes)


def grammars_of_places():
    """PLACES that deal in many ways, which are the same for some numbers of place words."""
    yield grammar((), ())
    for first, second in product(("one", "may", "many"), repeat=2):
        if (first, second) != ("many", "many"):
            yield grammar((), [("aa", first), ("bb", second)])
            yield grammar((), [("bb", first), ("aa", second)])
    yield grammar((), [("aa", "may"), ("bb", "may"), ("cc", "may"), ("dd", "may"), ("ee", "may")])
    yield grammar((), [("aa", "may"), ("bb", "may"), ("cc", "may"), ("dd", "may"), ("ee", "many")])
    yield grammar((), [("aa", "may"), ("bb", "may"), ("cc", "may"), ("dd", "many"), ("ee", "may")])
    yield grammar((), [("aa", "one"), ("bb", "one"), ("cc", "one"), ("dd", "one"), ("ee", "many")])


def grammars():
    """All of these, each once."""
    found = [*grammars_of_one_option(), *grammars_of_names(), *grammars_of_modes(), *grammars_of_places()]
    return list(dict.fromkeys(found))


# LINEs that give OPTIONs twice, which are too long for all LINEs of their SIZE to be tried.
TWICE = ("--a", "--ab", "--a=", "-a", "-aa", "", "-0")
EMPTY = ("",)


def lines():
    """All LINEs of a SIZE up to 4, and longer ones that matter, the least ones first."""
    found = all_lines(4, "ab-=05") + lines_of(TWICE, 4) + lines_of(EMPTY, 7)
    return sorted(dict.fromkeys(found), key=line_size)
