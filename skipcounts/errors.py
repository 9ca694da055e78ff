"""The errors that the package raises."""


class SkipError(ValueError):
    """What each error of the package is."""


class InvalidNumber(SkipError):
    """A number that may not stand where it stands."""

    def __init__(self, value=None):
        super().__init__("this number may not stand here")
        self.value = value


class InvalidText(SkipError):
    """What has to be a text and is none that may stand here."""

    def __init__(self, value=None):
        super().__init__("this is no text that may stand here")
        self.value = value


class InvalidWord(SkipError):
    """What has to be a word and is none that may stand here."""

    def __init__(self, value=None):
        super().__init__("this is no word that may stand here")
        self.value = value


class InvalidLetters(SkipError):
    """What has to be an alphabet and is none that may stand here."""

    def __init__(self, value=None):
        super().__init__("this is no alphabet that may stand here")
        self.value = value


class InvalidList(SkipError):
    """What has to be a certain list, or a part of one, and is not."""

    def __init__(self, value=None):
        super().__init__("this is not the list that has to stand here")
        self.value = value


class InvalidSum(SkipError):
    """What has to be a sum and is none that may stand here."""

    def __init__(self, value=None):
        super().__init__("this is no sum that may stand here")
        self.value = value


class InvalidTable(SkipError):
    """What has to be a table and is none that may stand here."""

    def __init__(self, value=None):
        super().__init__("this is no table that may stand here")
        self.value = value


class InvalidRules(SkipError):
    """What has to be rules of letters and is none that may stand here."""

    def __init__(self, value=None):
        super().__init__("these are no rules that may stand here")
        self.value = value


class InvalidMachine(SkipError):
    """What has to be a register machine and is none."""

    def __init__(self, value=None):
        super().__init__("this is no register machine")
        self.value = value


class InvalidFinite(SkipError):
    """What has to be a finite machine and is none."""

    def __init__(self, value=None):
        super().__init__("this is no finite machine")
        self.value = value


class InvalidKept(SkipError):
    """What has to be a kept text and is none."""

    def __init__(self, value=None):
        super().__init__("this is no kept text")
        self.value = value


class InvalidSaying(SkipError):
    """What has to be a saying and is none."""

    def __init__(self, value=None):
        super().__init__("this is no saying")
        self.value = value


class InvalidLines(SkipError):
    """What has to be a line of a sum and is none."""

    def __init__(self, value=None):
        super().__init__("this is no line of a sum")
        self.value = value


class InvalidDeed(SkipError):
    """What has to be a deed that can be done now and is none."""

    def __init__(self, value=None):
        super().__init__("this is no deed that can be done now")
        self.value = value


class Unlike(SkipError):
    """What has other letters, or another depth, than what it is taken with."""

    def __init__(self, value=None):
        super().__init__("this does not fit what it is taken with")
        self.value = value


class TooLong(SkipError):
    """More letters than are let; the field tells how many."""

    def __init__(self, value=None):
        super().__init__("there would be too many letters")
        self.value = value


class TooMany(SkipError):
    """More things than are let; the field tells how many."""

    def __init__(self, value=None):
        super().__init__("there would be too many things")
        self.value = value


class NothingToUndo(SkipError):
    """There is no deed that could be taken back."""


class NothingToRedo(SkipError):
    """There is no deed that could be done again."""
