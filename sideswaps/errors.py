"""The errors of the package."""


class SwapError(ValueError):
    """What all errors of the package are derived from."""


class InvalidNumber(SwapError):
    """A number that is not what was asked for."""

    def __init__(self, value=None):
        self.value = value


class InvalidWord(SwapError):
    """What has to be a word and is none."""

    def __init__(self, value=None):
        self.value = value


class InvalidJoints(SwapError):
    """What have to be joints and are none."""

    def __init__(self, value=None):
        self.value = value


class InvalidPrices(SwapError):
    """What have to be prices and are none."""

    def __init__(self, value=None):
        self.value = value


class InvalidList(SwapError):
    """What has to be a list of a told kind and is none."""

    def __init__(self, value=None):
        self.value = value


class InvalidTrain(SwapError):
    """What has to be a train and is none."""

    def __init__(self, value=None):
        self.value = value


class InvalidMachine(SwapError):
    """What has to be a machine and is none."""

    def __init__(self, value=None):
        self.value = value


class InvalidFar(SwapError):
    """What has to be a far word and is none."""

    def __init__(self, value=None):
        self.value = value


class InvalidRoad(SwapError):
    """What has to be a road and is none."""

    def __init__(self, value=None):
        self.value = value


class InvalidLine(SwapError):
    """What has to be a line and is none."""

    def __init__(self, value=None):
        self.value = value


class InvalidDeed(SwapError):
    """What has to be a deed or a step and is none."""

    def __init__(self, value=None):
        self.value = value


class Unlike(SwapError):
    """Two things that have to agree and do not."""

    def __init__(self, value=None):
        self.value = value


class TooMany(SwapError):
    """More things than are told one by one."""

    def __init__(self, value=None):
        self.value = value


class TooLong(SwapError):
    """A word too long to be written out."""

    def __init__(self, value=None):
        self.value = value


class NothingToUndo(SwapError):
    """No step is left that could be taken back."""


class NothingToRedo(SwapError):
    """No step was taken back that could be done again."""
