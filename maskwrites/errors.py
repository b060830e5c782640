"""The errors of the package: each keeps the very value that it was made with."""


class MaskError(ValueError):
    """What all errors of the package are."""


class BadSchema(MaskError):
    """Messages and choices, as a tuple, that make no schema."""

    def __init__(self, value):
        self.value = value


class BadPath(MaskError):
    """What is no path."""

    def __init__(self, value):
        self.value = value


class BadValue(MaskError):
    """What may not stand at a path."""

    def __init__(self, value):
        self.value = value


class BadPaper(MaskError):
    """What is no content of a paper."""

    def __init__(self, value):
        self.value = value


class BadStep(MaskError):
    """What is no step."""

    def __init__(self, value):
        self.value = value


class BadProgram(MaskError):
    """Steps that are too many, or too deep in one another."""

    def __init__(self, value):
        self.value = value


class BadMask(MaskError):
    """What makes no mask, or a mask of other paths than the schema's."""

    def __init__(self, value):
        self.value = value


class BadText(MaskError):
    """What is not the text of anything."""

    def __init__(self, value):
        self.value = value


class BadCommand(MaskError):
    """What is no command."""

    def __init__(self, command):
        self.command = command


class Unset(MaskError):
    """A path that is not set."""

    def __init__(self, path):
        self.path = path


class Lost(MaskError):
    """A pair of papers for which a client is not as if at once."""

    def __init__(self, pair):
        self.pair = pair


class Refused(MaskError):
    """The number of a client that its guard bars from writing back."""

    def __init__(self, number):
        self.number = number


class UnknownNumber(MaskError):
    """What is not the number of a client that has begun and not ended."""

    def __init__(self, number):
        self.number = number


class NothingToUndo(MaskError):
    """What is not a number of deeds that can be taken back."""

    def __init__(self, many):
        self.many = many
