"""Releases: a row of GRAMMARs, the versions, and scripts that are kept with their SHAPEs."""

from keptlines.errors import BadForm, BadQuestion, Missing, Parts
from keptlines.forms import mended_lasting, need_form, shape
from keptlines.grammars import is_whole, need_grammar
from keptlines.keeping import oldest, parted
from keptlines.rules import Rules
from keptlines.shapes import state_by
from keptlines.words import is_tag


class Releases:
    """Versions and scripts, and what was done to them."""

    def __init__(self, grammar):
        self.versions = (need_grammar(grammar),)
        # The FORMs of scripts by their names, with the SHAPEs that they are kept with.
        self.scripts = {}
        # What these two and this one were ahead of the last deed, or None ahead of the first one.
        # None of them is ever changed, only replaced: so each one can be put back as it is.
        self.past = None

    def __len__(self):
        return len(self.versions)

    def __getitem__(self, number):
        if not is_whole(number) or not 0 <= number < len(self.versions):
            raise Missing(number)
        return self.versions[number]

    def __iter__(self):
        raise TypeError("the versions are read by their numbers")

    def __eq__(self, other):
        return isinstance(other, Releases) and self.versions == other.versions and self.scripts == other.scripts

    @property
    def last(self):
        """The last version."""
        return self.versions[-1]

    def turn(self, versions, scripts):
        """Do a deed: these are the versions and the scripts from now on."""
        self.past = (self.versions, self.scripts, self.past)
        self.versions = versions
        self.scripts = scripts

    def release(self, grammar):
        """Add a version that KEEPS the last one, and return its number."""
        need_grammar(grammar)
        line = parted(self.last, grammar)
        if line is not None:
            raise Parts(line)
        return self.force(grammar)

    def force(self, grammar):
        """Add a version, whatever it parts, and return its number."""
        need_grammar(grammar)
        self.turn(self.versions + (grammar,), self.scripts)
        return len(self.versions) - 1

    def kept_from(self):
        """The least number from which on the last version KEEPS each one."""
        return oldest(self.versions)

    def put(self, name, form):
        """Put a script in, in the place of one with this name."""
        if not is_tag(name):
            raise BadQuestion("no script has such a name")
        need_form(form)
        told = shape(self.last, form)
        if told is None:
            raise BadQuestion("the FORM has no SHAPE by the last version")
        self.keep_script(name, form, told)

    def keep_script(self, name, form, told):
        """Have a script kept with this SHAPE."""
        scripts = dict(self.scripts)
        scripts[name] = (form, told)
        self.turn(self.versions, scripts)

    def script(self, name):
        """The FORM and the SHAPE of a script; Missing of a name, of any kind, that none has."""
        if not is_tag(name) or name not in self.scripts:
            raise Missing(name)
        return self.scripts[name]

    def form(self, name):
        """The FORM of a script."""
        form, _ = self.script(name)
        return form

    def forget(self, name):
        """Take a script out."""
        self.script(name)
        self.turn(self.versions, {other: self.scripts[other] for other in self.scripts if other != name})

    def state(self, name):
        """The state of a script by the last version."""
        form, told = self.script(name)
        return state_by(Rules(self.last), form, told)

    def mend(self, name):
        """Put a FORM of the least SIZE in that lasts and has the SHAPE that is kept, and return it."""
        form, told = self.script(name)
        if self.state(name) == "broken":
            raise BadQuestion("the script is broken")
        better = mended_lasting(self.last, form)
        try:
            need_form(better)
        except BadForm:
            raise BadQuestion("the FORM that lasts is too long") from None
        self.keep_script(name, better, told)
        return better

    def names(self):
        """The names of the scripts, ascending."""
        return tuple(sorted(self.scripts))

    def states(self):
        """A dict from the names of the scripts, ascending, to their states."""
        rules = Rules(self.last)
        found = {}
        for name in sorted(self.scripts):
            form, told = self.scripts[name]
            found[name] = state_by(rules, form, told)
        return found

    def undo(self):
        """Take the last deed back; whether there was one."""
        if self.past is None:
            return False
        self.versions, self.scripts, self.past = self.past
        return True

    def trial(self):
        """What lets all be done in a with statement, and has it as it was behind that."""
        return Trial(self)


class Trial:
    """A with statement over Releases, behind which they are as they were."""

    def __init__(self, releases):
        self.releases = releases
        self.versions = ()
        self.scripts = {}
        self.past = None

    def __enter__(self):
        self.versions = self.releases.versions
        self.scripts = self.releases.scripts
        self.past = self.releases.past
        return self.releases

    def __exit__(self, kind, value, trace):
        self.releases.versions = self.versions
        self.releases.scripts = self.scripts
        self.releases.past = self.past


def under(manager, deed):
    """What the deed returns, called in a with statement over the manager."""
    with manager as one:
        return deed(one)
