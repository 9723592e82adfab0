"""The errors of this package: each keeps the very objects that its constructor was given."""


class LoopError(ValueError):
    """What all errors of this package are; none is just this."""


class Dead(LoopError):
    """A LOOP is not LIVE: ring is a RING with the SUM 0."""

    def __init__(self, ring):
        self.ring = ring


class NoCommand(LoopError):
    """A line that is no command of the desk."""

    def __init__(self, line):
        self.line = line


class NoTask(LoopError):
    """No task has this name."""

    def __init__(self, name):
        self.name = name


class NoText(LoopError):
    """A text is at fault at this place."""

    def __init__(self, place):
        self.place = place


class Nothing(LoopError):
    """There is nothing that could be done."""

    def __init__(self):
        LoopError.__init__(self)


class TooMany(LoopError):
    """There are more than so many."""

    def __init__(self, most):
        self.most = most


class Unlike(LoopError):
    """Something is unlike what it should be, at this step."""

    def __init__(self, step):
        self.step = step


class Wrong(LoopError):
    """The argument at this place, counted from 0, is not as described."""

    def __init__(self, place):
        self.place = place
