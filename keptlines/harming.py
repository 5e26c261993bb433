"""What FILLINGs of a FORM can bring: its HARMs."""

from keptlines.reading import LONE, VALUELESS, Reading

# What stands for a HOLE where a FORM has none.
NOTHING = (("", "", ()),)


def words_of_options(rules):
    """WORDs that give one OPTION by its NAME, without a value of its own and with one."""
    words = []
    for name in rules.kinds:
        words.extend(["--" + name, "--" + name + "="])
    return words


def words_of_letters(rules, start):
    """WORDs that give one OPTION by its LETTER behind the start, or a flag or count and one that waits."""
    words = [start, start + "="]
    joined = []
    waiting = []
    for letter in rules.letters:
        kind = rules.kinds[rules.letters[letter]]
        words.extend([start + letter, start + letter + "="])
        if kind in VALUELESS:
            joined.append(letter)
        elif kind not in LONE:
            waiting.append(letter)
    words.extend([start + first + last for first in joined for last in waiting])
    return words


def fillers(rules, text):
    """WORDs for the HOLE behind the TEXT: one for each thing that it can do in an open line."""
    if text != "" and not text.startswith("-"):
        return [""]
    words = [text, "--"] + words_of_options(rules)
    if not text.startswith("--"):
        words.extend(words_of_letters(rules, text if text != "" else "-"))
    return [word[len(text):] for word in words if word.startswith(text)]


def given(reading):
    """The NAMEs of the OPTIONs that were given, as often as they were; also of the one that is awaited."""
    names = [name for name in reading.got for _ in reading.got[name]]
    return tuple(names if reading.awaited is None else names + [reading.awaited])


def ways(rules, text):
    """What WORDs in the HOLE behind the TEXT can do in an open line.

    A dict from (closed, waits, placed), how the line stands behind the PIECE and how many place words the PIECE is,
    to lists of the WORDs that do this, with the NAMEs of the OPTIONs that they give.
    """
    found = {}
    known = {}
    for word in fillers(rules, text):
        reading = Reading(rules)
        reading.read_word(text + word)
        stand = (reading.closed, reading.awaited is not None, len(reading.placed))
        names = given(reading)
        if not reading.refused and (stand, names) not in known:
            known[stand, names] = True
            found.setdefault(stand, []).append((word, names))
    return found


class Search:
    """A search for the HARMs of a FORM that has a SHAPE, of at most two HOLEs, each in one PIECE."""

    def __init__(self, rules, pieces, held):
        self.rules = rules
        self.pieces = pieces
        # The NAMEs that are no HARMs, and those of HARMs that were found, with FILLINGs.
        self.held = held
        self.found = {}
        # What was told of TEXTs by ways.
        self.known = {}

    def follow(self, at, stand, names, chosen):
        """Follow the line from PIECE number at; chosen: the HOLEs ahead of it, with what their WORDs can do."""
        closed, waits, placed = stand
        reading = Reading(self.rules)
        reading.closed = closed
        while at < len(self.pieces) and isinstance(self.pieces[at], str) and not reading.refused:
            # What waits takes the WORD, whatever it is; its NAME was noted already.
            if not waits:
                reading.read_word(self.pieces[at])
            waits = False
            at += 1
        if reading.refused:
            return
        stand = (reading.closed, waits or reading.awaited is not None, placed + len(reading.placed))
        if at < len(self.pieces):
            self.branch(at, stand, names + given(reading), chosen)
        elif not stand[1] and self.rules.deals(stand[2]):
            self.note(names + given(reading), chosen)

    def branch(self, at, stand, names, chosen):
        """Follow the line from a PIECE with a HOLE, in each way that it can be read."""
        closed, waits, placed = stand
        text, hole = self.pieces[at]
        if waits or closed:
            doing = {(closed, False, 0 if waits else 1): [("", ())]}
        else:
            doing = self.ways_behind(text)
        for after in doing:
            fillings = [(hole, word, more) for word, more in doing[after]]
            self.follow(at + 1, (after[0], after[1], placed + after[2]), names, chosen + [fillings])

    def ways_behind(self, text):
        """What WORDs behind the TEXT can do in an open line, found out once."""
        if text not in self.known:
            self.known[text] = ways(self.rules, text)
        return self.known[text]

    def once_among(self, names):
        """Those of the NAMEs whose OPTIONs get no second value."""
        return [name for name in names if self.rules.kinds[name] == "once"]

    def note(self, names, chosen):
        """Note the HARMs of a line that is ACCEPTED where no OPTION that gets one value gets two."""
        once = self.once_among(names)
        if len(set(once)) < len(once):
            return
        rows = [[way for way in fillings if not self.clash(once, way[2])] for fillings in chosen]
        firsts, seconds = (rows + [NOTHING, NOTHING])[:2]
        for one in firsts:
            self.note_first(names, one, seconds)
        for one in seconds:
            self.note_first(names, one, firsts)

    def note_first(self, names, one, others):
        """Note the HARMs that one HOLE brings, with the first WORD of the other one that lets it."""
        if not self.tells_new(names + one[2]):
            return
        for other in others:
            if not self.clash(one[2], other[2]):
                filling = [(hole, word) for hole, word, _ in (one, other) if hole != ""]
                for name in names + one[2] + other[2]:
                    if self.tells_new([name]):
                        self.found[name] = tuple(sorted(filling))
                return

    def clash(self, names, others):
        """Whether an OPTION that gets no second value is among both."""
        return any([name in others for name in self.once_among(names)])

    def tells_new(self, names):
        """Whether one of the NAMEs is that of a HARM that was not found yet."""
        return any([name not in self.held and name not in self.found for name in names])


def harms_by(rules, form, shape):
    """A dict from the NAMEs of the HARMs, ascending, to FILLINGs that bring them."""
    search = Search(rules, form, [name for name, _ in shape[0]])
    search.follow(0, (False, False, 0), (), [])
    return {name: search.found[name] for name in sorted(search.found)}
