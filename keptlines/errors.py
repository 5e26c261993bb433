"""The errors that the package raises."""


class KeptError(ValueError):
    """An argument was refused."""


class BadGrammar(KeptError):
    """What was passed as a GRAMMAR is none; place tells where it fails."""

    def __init__(self, place):
        super().__init__(f"no GRAMMAR, at {place}")
        self.place = place


class BadLine(KeptError):
    """What was passed as a LINE is none; place tells where it fails."""

    def __init__(self, place):
        super().__init__(f"no LINE, at {place}")
        self.place = place


class BadMeaning(KeptError):
    """What was passed as a MEANING is none; place tells where it fails."""

    def __init__(self, place):
        super().__init__(f"no MEANING, at {place}")
        self.place = place


class BadForm(KeptError):
    """What was passed as a FORM is none; place tells where it fails."""

    def __init__(self, place):
        super().__init__(f"no FORM, at {place}")
        self.place = place


class BadText(KeptError):
    """What was passed as a text is none; place tells where it fails."""

    def __init__(self, place):
        super().__init__(f"no such text, at {place}")
        self.place = place


class BadQuestion(KeptError):
    """What was asked has no answer; the text tells why."""


class Parts(RuntimeError):
    """A version does not keep the last one; line is a LINE that is parted."""

    def __init__(self, line):
        super().__init__("a line is parted")
        self.line = line


class Missing(KeyError):
    """Nothing is there under the name, which may be of any kind."""

    def __init__(self, name):
        # The name is not shown: it may be too deep for that.
        super().__init__("nothing has this name")
        self.name = name
