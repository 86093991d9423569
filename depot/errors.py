"""The refusals of the program: one class for each."""


class DepotError(ValueError):
    pass


class NoPlan(DepotError):
    pass


class NoName(DepotError):
    pass


class NoWare(DepotError):
    pass


class NoDay(DepotError):
    pass


class NoBin(DepotError):
    pass


class NoLot(DepotError):
    pass


class NoAmount(DepotError):
    pass


class NoRoom(DepotError):
    pass


class TooLittle(DepotError):
    pass


class NoRule(DepotError):
    pass


class NoPromise(DepotError):
    pass


class Broken(DepotError):
    pass


class NotToday(DepotError):
    pass


class StillOpen(DepotError):
    pass


class NoRow(DepotError):
    pass
