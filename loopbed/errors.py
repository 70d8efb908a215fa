"""The refusals. All stand under LoopError, so that a caller can take any of them at once."""


class LoopError(ValueError):
    pass


class NoPattern(LoopError):
    pass


class Unfit(LoopError):
    pass


class BedFault(LoopError):
    pass


class Empty(BedFault):
    pass


class Overfull(BedFault):
    pass


class TooFar(BedFault):
    pass


class NothingDone(BedFault):
    pass
