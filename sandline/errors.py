"""The refusals of the program."""


class SandError(ValueError):
    pass


class NoBoard(SandError):
    pass


class NoDoor(SandError):
    pass


class NoSign(SandError):
    pass


class NoDrawing(SandError):
    pass
