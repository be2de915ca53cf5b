"""The refusals: one class each, all of them under RoomError and none under another one."""


class RoomError(ValueError):
    pass


class NoExchange(RoomError):
    pass


class NoText(RoomError):
    pass


class NoMachine(RoomError):
    pass


class NoWay(RoomError):
    pass


class NotSingle(RoomError):
    pass


class NoFit(RoomError):
    pass


class TooGreat(RoomError):
    pass


class NoRow(RoomError):
    pass


class NoName(RoomError):
    pass
