"""The errors of the package; each keeps the very value that it is about."""


class MailError(ValueError):
    """What all errors of the package are."""


class BadName(MailError):
    """A value that is not a name."""

    def __init__(self, value):
        self.value = value


class BadMessage(MailError):
    """A value that is not a message."""

    def __init__(self, value):
        self.value = value


class BadCondition(MailError):
    """A value that is not a condition."""

    def __init__(self, value):
        self.value = value


class BadRule(MailError):
    """A value that is not a rule."""

    def __init__(self, value):
        self.value = value


class BadHouse(MailError):
    """A value that a house cannot take in."""

    def __init__(self, value):
        self.value = value


class UnknownName(MailError):
    """A value that is not one of the names asked for."""

    def __init__(self, name):
        self.name = name


class TakenName(MailError):
    """A name that is an address already."""

    def __init__(self, name):
        self.name = name


class BadWish(MailError):
    """A value that is not a wish or not a measure."""

    def __init__(self, value):
        self.value = value


class BadPlace(MailError):
    """A value that is not a place or not a cut."""

    def __init__(self, value):
        self.value = value


class BadText(MailError):
    """A value that is not the text of what is to be read."""

    def __init__(self, value):
        self.value = value


class BadCommand(MailError):
    """A value that is not a command."""

    def __init__(self, command):
        self.command = command


class Endless(MailError):
    """A ring, by which a message has endless arrivals."""

    def __init__(self, ring):
        self.ring = ring


class NothingWaiting(MailError):
    """A value that is not the number of something on its way."""

    def __init__(self, number):
        self.number = number
