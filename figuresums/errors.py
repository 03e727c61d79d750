"""The refusals of the program."""


class SumError(ValueError):
    """Any refusal."""


class NoStretch(SumError):
    """The first number of a stretch is greater than its last one."""


class NoAsk(SumError):
    """A line asks nothing that the desk knows."""


class NoNumber(SumError):
    """A text writes no number; `place` is that of the sign it fails at, counted from 0."""

    def __init__(self, place):
        super().__init__(f"no number is written: place {place}")
        self.place = place
