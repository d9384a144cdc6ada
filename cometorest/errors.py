"""The refusals: one class each, all straight under RestError."""


class RestError(ValueError):
    pass


class NoKind(RestError):
    pass


class TooMany(RestError):
    pass


class NoName(RestError):
    pass


class NoWish(RestError):
    pass


class NoLimit(RestError):
    pass


class NoState(RestError):
    pass


class NoPlace(RestError):
    pass


class NoDeed(RestError):
    pass


class NoRule(RestError):
    pass


class NoStep(RestError):
    pass


class NoSituation(RestError):
    pass


class NoRound(RestError):
    pass


class NoText(RestError):
    def __init__(self, line):
        RestError.__init__(self, f"row {line} can't be read")
        self.line = line


class NoRow(RestError):
    pass
