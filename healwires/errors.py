"""The errors of the package."""


class WireError(ValueError):
    """What all errors of the package are derived from."""


class InvalidNumber(WireError):
    """What should be a number of some kind and is none."""

    def __init__(self, value=None):
        self.value = value


class InvalidLink(WireError):
    """What should be a link and is none."""

    def __init__(self, value=None):
        self.value = value


class InvalidContents(WireError):
    """What should be contents of a link and is none."""

    def __init__(self, value=None):
        self.value = value


class InvalidEvent(WireError):
    """What should be an event, or one that is possible, and is none."""

    def __init__(self, value=None):
        self.value = value


class InvalidRun(WireError):
    """What should be a run, or one of some contents, and is none."""

    def __init__(self, value=None):
        self.value = value


class InvalidBit(WireError):
    """What should be a bit and is none."""

    def __init__(self, value=None):
        self.value = value


class InvalidView(WireError):
    """What should be a view of a link and is none."""

    def __init__(self, value=None):
        self.value = value


class InvalidWeb(WireError):
    """What should be a web and is none."""

    def __init__(self, value=None):
        self.value = value


class InvalidWords(WireError):
    """What should be word contents, or letters, and is not."""

    def __init__(self, value=None):
        self.value = value


class InvalidText(WireError):
    """What should be a text and is none."""

    def __init__(self, value=None):
        self.value = value


class InvalidDeed(WireError):
    """What should be a deed, a mending or a live link and is none."""

    def __init__(self, value=None):
        self.value = value


class Unlike(WireError):
    """A link that is not sound where a sound one is wanted."""

    def __init__(self, value=None):
        self.value = value


class TooMany(WireError):
    """How many there are, where these are too many to be told."""

    def __init__(self, value=None):
        self.value = value


class NothingToUndo(WireError):
    """No deed is left that could be taken back."""


class NothingToRedo(WireError):
    """No deed is left that could be done again."""
