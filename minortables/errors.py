"""The refusals: each stands straight under MinorError."""


class MinorError(ValueError):
    pass


class NoTable(MinorError):
    pass


class NoFit(MinorError):
    pass


class NoPlace(MinorError):
    pass


class NoStep(MinorError):
    pass


class NoSteps(MinorError):
    pass


class NoText(MinorError):
    pass


class NoName(MinorError):
    pass


class NoBack(MinorError):
    pass
