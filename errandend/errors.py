"""The refusals, one class for each, so that an asker can tell them apart by name."""


class ErrandError(ValueError):
    pass


class BadText(ErrandError):
    pass


class Twice(ErrandError):
    pass


class NoSuch(ErrandError):
    pass


class WrongCount(ErrandError):
    pass


class Apart(ErrandError):
    pass


class TooMany(ErrandError):
    pass


class NoWay(ErrandError):
    pass
