"""The refusals of fourfold: all stand straight under FourError, none under another."""


class FourError(ValueError):
    pass


class NoPicture(FourError):
    pass


class NoSpot(FourError):
    pass


class BadBox(FourError):
    pass


class Unlike(FourError):
    pass


class NoRule(FourError):
    pass


class NoBlocks(FourError):
    pass


class NoChange(FourError):
    pass


class NoNumber(FourError):
    pass


class NothingDone(FourError):
    pass


class NoText(FourError):
    pass


class NoName(FourError):
    pass
