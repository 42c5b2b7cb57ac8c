"""The refusals: one class each, with the value `at`."""


class CallError(ValueError):
    """Any refusal; `at` says what was refused, or where."""

    def __init__(self, at):
        ValueError.__init__(self, f"refused at {at!r}")
        self.at = at


class NoWeb(CallError):
    """What was handed in comes to no web."""


class NoKind(CallError):
    """No kind of the web stands by the name."""


class NoBook(CallError):
    """What was handed in comes to no book."""


class NoCall(CallError):
    """A call with another number of arms than there are places."""


class NoRule(CallError):
    """No rule stands by the name."""


class NoFit(CallError):
    """A rule that does not fit the call, or a call that no rule fits."""


class Quarrel(CallError):
    """Several rules are nearest where just one is needed."""


class NoProgram(CallError):
    """What was handed in comes to no program."""


class NoDeed(CallError):
    """No deed stands by the name."""


class TooDeep(CallError):
    """One run more than may last at a time."""


class TooLong(CallError):
    """One step more than may begin."""


class NoName(CallError):
    """What was handed in as a name is none."""


class Taken(CallError):
    """The name is another one's already."""


class Full(CallError):
    """There is no room for one more."""


class Twice(CallError):
    """What must be unlike comes twice."""


class NoStep(CallError):
    """What was handed in as a step is none."""


class Needed(CallError):
    """Something else still needs what is to be taken out."""


class NoText(CallError):
    """A text that is not written of a program."""


class NoRow(CallError):
    """A row that is none of those of the desk."""
