"""The refusals: one class for each, all under HallError."""


class HallError(ValueError):
    pass


class NoDeed(HallError):
    pass


class NoBoxes(HallError):
    pass


class NoHands(HallError):
    pass


class NoHand(HallError):
    pass


class NoRow(HallError):
    pass
