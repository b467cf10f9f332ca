"""The errors of the package; each keeps what it is about as an attribute."""


class RoundCallsError(ValueError):
    """The base class of the errors below, but for the two that are KeyErrors."""


class InvalidText(RoundCallsError):
    """A text is not the text of a value or of a program."""


class InvalidCommand(RoundCallsError):
    """A workspace was given something that is no command."""


class NoPath(RoundCallsError):
    """A path leads to no node."""

    def __init__(self, path):
        self.path = path


class UnknownName(RoundCallsError):
    """A part of a program has a name that stands for nothing there."""

    def __init__(self, path):
        self.path = path


class UnknownTag(RoundCallsError):
    """A part of a program has a tag that the signature does not list."""

    def __init__(self, path):
        self.path = path


class WrongCount(RoundCallsError):
    """A part of a program has too many or too few fields, names or arguments."""

    def __init__(self, path):
        self.path = path


class WrongSort(RoundCallsError):
    """A part of a program uses a function of a sort that may not stand there."""

    def __init__(self, path):
        self.path = path


class WrongPlace(RoundCallsError):
    """A part of a program uses a function where it may not be used."""

    def __init__(self, path):
        self.path = path


class WrongArguments(RoundCallsError):
    """A call has another number of arguments than the function has parameters."""

    def __init__(self, count):
        self.count = count


class NoCertificate(RoundCallsError):
    """A maker's answer was asked for a certificate."""

    def __init__(self, name):
        self.name = name


class NoRuns(RoundCallsError):
    """A test was asked for its runs."""

    def __init__(self, name):
        self.name = name


class NotPending(RoundCallsError):
    """A machine was told to expand something that is no pending call."""

    def __init__(self, call):
        self.call = call


class NotFinished(RoundCallsError):
    """A machine was asked for its answer while a call is pending."""


class NotPlain(RoundCallsError):
    """A function is not as plain, or as bare, as it must be."""

    def __init__(self, name):
        self.name = name


class NotSimple(RoundCallsError):
    """A test is not simple."""

    def __init__(self, name):
        self.name = name


class NoMaker(RoundCallsError):
    """A function whose answer was to be kept is no maker."""

    def __init__(self, name):
        self.name = name


class NameTaken(RoundCallsError):
    """A name is kept already."""

    def __init__(self, name):
        self.name = name


class UnknownFunction(KeyError):
    """A program has no function of this name."""

    def __init__(self, name):
        self.name = name


class UnknownItem(KeyError):
    """Nothing is kept under this name."""

    def __init__(self, name):
        self.name = name
