"""The refusals of the program."""


class WallError(ValueError):
    """Any refusal."""


class NoNumber(WallError):
    """A fraction was asked for that there is not."""


class NoLand(WallError):
    """The signs are no land's."""


class NoFace(WallError):
    """The signs are no face's."""


class NoPlace(WallError):
    """No wall stands at the place."""


class NoWall(WallError):
    """The numbers at a place make no wall, or none that may stand there."""

    def __init__(self, place):
        # Words would have to write the place out, which Python refuses for numbers of some thousand figures.
        WallError.__init__(self, place)
        self.place = place
