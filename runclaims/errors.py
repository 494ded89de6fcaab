"""The errors that the package raises."""


class ModelError(ValueError):
    """What all errors of the package are."""


class BadLine(ModelError):
    """The line with this number is none that can be read."""

    def __init__(self, number):
        self.number = number


class BadText(ModelError):
    """The text can't be read from the piece with this number on."""

    def __init__(self, piece):
        self.piece = piece


class Known(ModelError):
    """The name is somebody's already."""

    def __init__(self, name):
        self.name = name


class NoCell(ModelError):
    """No cell has this name."""

    def __init__(self, name):
        self.name = name


class NoLabel(ModelError):
    """No label has this name."""

    def __init__(self, name):
        self.name = name


class NoNumber(ModelError):
    """Nothing has this number."""

    def __init__(self, number):
        self.number = number


class NoPart(ModelError):
    """No part has this name."""

    def __init__(self, name):
        self.name = name


class NoQueue(ModelError):
    """No queue has this name."""

    def __init__(self, name):
        self.name = name


class NoSystem(ModelError):
    """No system has this name."""

    def __init__(self, name):
        self.name = name


class NoWord(ModelError):
    """No word heard has this name."""

    def __init__(self, name):
        self.name = name


class NotReady(ModelError):
    """A turn is not ready where it should be taken."""


class NothingDone(ModelError):
    """There is nothing that can be taken back."""


class Unfit(ModelError):
    """What is asked for would not be what it should be."""
