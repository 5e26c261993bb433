"""Grammars, lines and odd things that several tests use."""

from itertools import product

ON = (True, True, True)
OFF = (False, False, False)

# The document's own example, in [7].
EXAMPLE = (
    (("color", "c", "last"), ("copy", "", "flag"), ("verbose", "v", "count")),
    (("file", "many"),),
    (True, True, True),
)

LETTERS = "abcdefghijklmnopqrstuvwxyz0123456789"

ALL_MODES = list(product((True, False), repeat=3))


def grammar(options=(), places=(), modes=ON):
    return (tuple(options), tuple(places), modes)


def many_options(count):
    """So many OPTIONs, with unlike NAMEs and LETTERs."""
    return tuple(("op-" + LETTERS[n], LETTERS[n], "flag") for n in range(count))


def many_places(count):
    return tuple(("place-" + LETTERS[n], "one") for n in range(count))


class EqualsAll:
    """Says that it equals everything, and cannot be a key."""

    __hash__ = None

    def __eq__(self, other):
        return True

    def __ne__(self, other):
        return False


class Stubborn:
    """Can be neither compared, measured, tested, iterated nor shown."""

    def refuse(self, *rest):
        raise RuntimeError("this thing is not to be asked")

    __eq__ = __ne__ = __lt__ = __gt__ = __hash__ = refuse
    __len__ = __bool__ = __iter__ = __contains__ = __getitem__ = refuse
    __repr__ = __str__ = __format__ = refuse


def deep(kind, levels=20000):
    thing = kind()
    for _ in range(levels):
        thing = kind([thing])
    return thing


def within_itself():
    thing = []
    thing.append(thing)
    return thing


def odd_things():
    """Things that are no string and no tuple, made anew in each call."""
    return [
        None, True, False, 0, 1, 2, -1, 10 ** 60, 1j, Ellipsis, NotImplemented,
        b"", b"ab", b"flag", bytearray(b"ab"),
        [], ["ab"], [1, 2, 3], [[], [], []], list("abc"),
        {}, {"ab": 1}, {"a": 1, "b": 2, "c": 3}, {1: 1}, {0: "a", 1: "b", 2: "c"},
        set(), {"ab"}, frozenset(), frozenset(["ab"]),
        object(), object, str, tuple, len, lambda: "ab", range(3), iter("abc"),
        (sign for sign in "abc"), ValueError("ab"),
        EqualsAll(), Stubborn(), deep(list), within_itself(),
    ]


def odd_tuples():
    """Tuples, of one to four items, of things that belong nowhere."""
    return [
        (None,), (1, 2), (True, True), (None, None, None), ([], [], []), ((), ()),
        (EqualsAll(), EqualsAll(), EqualsAll()), (Stubborn(), Stubborn(), Stubborn()),
        (EqualsAll(), EqualsAll()), (Stubborn(), Stubborn()), deep(tuple),
        (deep(tuple), deep(tuple), deep(tuple)), (within_itself(),) * 3,
        (1, 2, 3, 4), ((), (), (), ()),
    ]


def show(thing):
    """A text of any thing, for the messages of tests."""
    try:
        return repr(thing)[:200]
    except (RuntimeError, RecursionError):
        return "a thing that cannot be shown"
