"""A desk: texts are said to Releases and a draft, and texts come back."""

from keptlines.errors import KeptError, Missing, Parts
from keptlines.forms import harms
from keptlines.grammars import with_options
from keptlines.reading import lasts, meaning
from keptlines.releases import Releases
from keptlines.texts import form_text, grammar_text, line_text, option_told, read_form, read_grammar, read_line

NO = "no"
DONE = "done"


def say_wish(desk, rest):
    """Give the draft one OPTION more."""
    option = option_told(rest.split(" "))
    if option is None:
        return NO
    desk.draft = with_options(desk.draft, (option,))
    return DONE


def say_drop(desk, name):
    """Take an OPTION from the draft."""
    options, places, modes = desk.draft
    left = tuple([option for option in options if option[0] != name])
    if len(left) == len(options):
        return NO
    desk.draft = (left, places, modes)
    return DONE


def say_draft(desk):
    """Tell the draft."""
    return grammar_text(desk.draft)


def say_release(desk):
    """Release the draft if it KEEPS the last version."""
    try:
        number = desk.releases.release(desk.draft)
    except Parts as parts:
        # The text of the empty LINE is empty, and so is what stands ahead of it.
        return "parts " + line_text(parts.line) if parts.line != () else "parts"
    return f"version {number}"


def say_force(desk):
    """Release the draft, whatever it parts."""
    return f"version {desk.releases.force(desk.draft)}"


def say_lasts(desk, text):
    """Tell whether a LINE lasts by the last version."""
    line = read_line(text)
    if meaning(desk.releases.last, line) is None:
        return "refused"
    return "lasts" if lasts(desk.releases.last, line) else "breaks"


def say_put(desk, rest):
    """Put a script in, and tell its state."""
    name, _, text = rest.partition(" ")
    desk.releases.put(name, read_form(text))
    return desk.releases.state(name)


def say_mend(desk, name):
    """Mend a script, and tell its FORM."""
    return form_text(desk.releases.mend(name))


def say_state(desk, name):
    """Tell the state of a script."""
    return desk.releases.state(name)


def say_harm(desk, name):
    """Tell the HARMs of a script."""
    found = harms(desk.releases.last, desk.releases.form(name))
    return " ".join(list(found)) if found else "none"


def say_undo(desk):
    """Take the last deed back; the draft is the last version then."""
    was_there = desk.releases.undo()
    desk.draft = desk.releases.last
    return DONE if was_there else "nothing"


# What is said as one word, and what is said with something behind it.
ALONE = {"draft": say_draft, "release": say_release, "force": say_force, "undo": say_undo}
WITH_REST = {
    "wish": say_wish, "drop": say_drop, "lasts": say_lasts, "put": say_put, "mend": say_mend,
    "state": say_state, "harm": say_harm,
}


def answer(desk, line):
    """What is answered to a line; an error of the package if its deed raises one."""
    if line in ALONE:
        alone = ALONE[line]
        return alone(desk)
    word, _, rest = line.partition(" ")
    if word not in WITH_REST:
        return NO
    action = WITH_REST[word]
    return action(desk, rest)


class Desk:
    """Releases, and a draft of the next version."""

    def __init__(self, text):
        self.releases = Releases(read_grammar(text))
        self.draft = self.releases.last

    def say(self, line):
        """Do what the line says, and return what is answered."""
        if not isinstance(line, str):
            return NO
        try:
            return answer(self, line)
        except (KeptError, Missing):
            return NO
