"""The refusals. Each stands straight under WireError, so that taking one never takes another."""


class WireError(ValueError):
    pass


class NoText(WireError):
    pass


class NoFit(WireError):
    pass


class NoSlide(WireError):
    pass


class NoFind(WireError):
    pass


class TooWide(WireError):
    def __init__(self, number):
        WireError.__init__(self, number)
        self.number = number
