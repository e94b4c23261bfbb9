"""All classes of exceptions; their arguments stand in fields of the same names."""


class TombError(ValueError):
    """What all errors about wrong arguments stand under."""


class BadEntry(TombError):
    """Tells what is no entry."""

    def __init__(self, value):
        self.value = value


class BadEntries(TombError):
    """Tells what is no list or tuple of entries with different keys."""

    def __init__(self, value):
        self.value = value


class BadText(TombError):
    """Tells what is no text of an entry or an event."""

    def __init__(self, value):
        self.value = value


class BadEvent(TombError):
    """Tells what is no event."""

    def __init__(self, value):
        self.value = value


class BadWorld(TombError):
    """Tells what no world can be made of or compared with."""

    def __init__(self, value):
        self.value = value


class BadKey(TombError):
    """Tells what is no word where a key is asked for."""

    def __init__(self, value):
        self.value = value


class BadStamp(TombError):
    """Tells what is no stamp."""

    def __init__(self, value):
        self.value = value


class BadHomes(TombError):
    """Tells what is no list or tuple of different homes."""

    def __init__(self, value):
        self.value = value


class BadRow(TombError):
    """Tells what is no list or tuple of events."""

    def __init__(self, value):
        self.value = value


class BadStory(TombError):
    """Tells what is no story."""

    def __init__(self, value):
        self.value = value


class BadLimit(TombError):
    """Tells what is no limit of a timed policy."""

    def __init__(self, value):
        self.value = value


class BadPolicy(TombError):
    """Tells what is no policy."""

    def __init__(self, value):
        self.value = value


class BadKeys(TombError):
    """Tells what is no list or tuple of different words."""

    def __init__(self, value):
        self.value = value


class BadDepth(TombError):
    """Tells what is no depth."""

    def __init__(self, value):
        self.value = value


class BadSkips(TombError):
    """Tells what is no tuple of things to skip."""

    def __init__(self, value):
        self.value = value


class BadPlan(TombError):
    """Tells what is no plan."""

    def __init__(self, value):
        self.value = value


class BadQuestion(TombError):
    """Tells what no question is or can be made of."""

    def __init__(self, value):
        self.value = value


class BadLine(TombError):
    """Tells a line, or the index of a line, that is not right."""

    def __init__(self, value):
        self.value = value


class NotARun(TombError):
    """Tells the index of what is no event of a run."""

    def __init__(self, value):
        self.value = value


class NoMoment(TombError):
    """Tells what is no moment."""

    def __init__(self, value):
        self.value = value


class TooLong(TombError):
    """Tells the number of events that a plan may do at most."""

    def __init__(self, value):
        self.value = value


class NoEntry(KeyError):
    """Tells a key of which there is no entry."""

    def __init__(self, value):
        self.value = value


class NoHome(KeyError):
    """Tells what is no home, or no place, that can be asked."""

    def __init__(self, value):
        self.value = value


class NoLink(KeyError):
    """Tells the ends of a link that there is not."""

    def __init__(self, value):
        self.value = value


class Refused(RuntimeError):
    """Tells the word of a refusal and what was refused."""

    def __init__(self, word, value):
        self.word = word
        self.value = value


class NoWorld(RuntimeError):
    """Tells that there is no world yet."""

    def __init__(self):
        RuntimeError.__init__(self, "there is no world yet")
