"""The errors of the package, each directly under the built-in class that fits it."""


class NoWorker(LookupError):
    """The net has no worker of this name."""

    def __init__(self, worker):
        self.worker = worker


class NoQueue(LookupError):
    """The net has no queue of this name."""

    def __init__(self, queue):
        self.queue = queue


class NoBlock(LookupError):
    """The nest has no block of this name."""

    def __init__(self, block):
        self.block = block


class NoDoor(LookupError):
    """There is no door at this place."""

    def __init__(self, place):
        self.place = place


class NoStep(ValueError):
    """No step can be taken at this place."""

    def __init__(self, place):
        self.place = place


class NoFit(ValueError):
    """Things that were put together do not fit."""


class NoTable(ValueError):
    """There is no such table."""


class NoPart(ValueError):
    """There is no such part."""


class BadQueue(ValueError):
    """A queue of this name cannot be so."""

    def __init__(self, queue):
        self.queue = queue


class BadName(ValueError):
    """This name leads to names that are taken."""

    def __init__(self, name):
        self.name = name


class BadLine(ValueError):
    """The line of this number is wrong."""

    def __init__(self, number):
        self.number = number


class Silent(RuntimeError):
    """This queue holds no message for the worker that it ends at."""

    def __init__(self, queue):
        self.queue = queue


class Full(RuntimeError):
    """This queue has no room for the message that must be sent on it."""

    def __init__(self, queue):
        self.queue = queue


class Dead(RuntimeError):
    """This worker is at its death."""

    def __init__(self, worker):
        self.worker = worker


class NothingDone(RuntimeError):
    """There is nothing left to undo."""
