"""The errors of the program.

The texts of the errors do not show the values that the errors hold: a value may be any object, and
writing out one that is nested very deep, or a number with very many digits, would itself be an error.
"""


class KnowError(ValueError):
    """The base class of all errors of the program."""


class BadState(KnowError):
    """A value that is not a state, or not one that is allowed at its place."""

    def __init__(self, value):
        KnowError.__init__(self, "this is not a state that can stand here")
        self.value = value


class BadSteps(KnowError):
    """The index of a wrong step, or -1 for a wrong row of steps."""

    def __init__(self, at):
        KnowError.__init__(self, "these are not the steps of a machine")
        self.at = at


class BadFaults(KnowError):
    """The word of a wrong fault, or None for wrong faults as a whole."""

    def __init__(self, word):
        KnowError.__init__(self, "these are not the faults of a machine")
        self.word = word


class NotLive(KnowError):
    """A reached state that no step leaves."""

    def __init__(self, state):
        KnowError.__init__(self, "no step leaves a reached state")
        self.state = state


class BadWord(KnowError):
    """A value that is not a word or a sight, or not one that is allowed at its place."""

    def __init__(self, value):
        KnowError.__init__(self, "this is not a word that can stand here")
        self.value = value


class BadWatch(KnowError):
    """A value that is not a watch, or that no watch can be made of."""

    def __init__(self, value):
        KnowError.__init__(self, "this is not a watch")
        self.value = value


class BadWatches(KnowError):
    """The index of an item that is not a watch, or -1 for a wrong row of watches."""

    def __init__(self, at):
        KnowError.__init__(self, "this is not a row of watches")
        self.at = at


class BadRun(KnowError):
    """The index of a wrong step of a run, or -1 for what is no run at all."""

    def __init__(self, at):
        KnowError.__init__(self, "this is not a run of the machine")
        self.at = at


class BadSights(KnowError):
    """The index of a wrong sight, or -1 for a wrong row of sights."""

    def __init__(self, at):
        KnowError.__init__(self, "no run has these sights")
        self.at = at


class NoFault(KnowError):
    """A value that is not the name of a fault of the machine."""

    def __init__(self, name):
        KnowError.__init__(self, "this is not a fault of the machine")
        self.name = name


class BadCount(KnowError):
    """A value that is not a count that is allowed at its place."""

    def __init__(self, value):
        KnowError.__init__(self, "this is not a count that can stand here")
        self.value = value


class BadCosts(KnowError):
    """The word of a wrong cost, or None for wrong costs as a whole."""

    def __init__(self, word):
        KnowError.__init__(self, "these are not the costs of words")
        self.word = word


class BadRows(KnowError):
    """The index of a wrong candidate, or -1 for a wrong row of candidates."""

    def __init__(self, at):
        KnowError.__init__(self, "these are not different candidates")
        self.at = at


class BadProbes(KnowError):
    """The name of a wrong probe, or None for wrong probes as a whole."""

    def __init__(self, name):
        KnowError.__init__(self, "these are not probes")
        self.name = name


class TooMany(KnowError):
    """The limit that something exceeds."""

    def __init__(self, limit):
        KnowError.__init__(self, "there are more than the limit allows")
        self.limit = limit


class NotText(KnowError):
    """The number of a wrong line (0 for the text as a whole), and the reason if there is one."""

    def __init__(self, line, reason):
        KnowError.__init__(self, "this is not the text of a machine")
        self.line = line
        self.reason = reason


class NothingDone(KnowError):
    """There is no change that could be taken back."""

    def __init__(self):
        KnowError.__init__(self, "there is no change to take back")
