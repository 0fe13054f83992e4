"""The refusals of the program."""


class FigureError(ValueError):
    pass


class NoBase(FigureError):
    pass


class NoFraction(FigureError):
    pass


class NoWriting(FigureError):
    pass


class NoNumber(FigureError):
    pass


class TooLong(FigureError):
    pass


class NoNote(FigureError):
    pass
