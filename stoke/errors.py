"""The refusals: all of them under StokeError, none of them under another one."""


class StokeError(ValueError):
    pass


class NoNumber(StokeError):
    pass


class NoHold(StokeError):
    pass


class Full(StokeError):
    pass


class NoMarks(StokeError):
    pass


class TooMany(StokeError):
    pass


class NoSky(StokeError):
    pass


class NoStove(StokeError):
    pass


class NoState(StokeError):
    pass


class Ended(StokeError):
    pass


class NoOrder(StokeError):
    pass


class NoFailing(StokeError):
    pass


class NotOut(StokeError):
    pass


class NoKeeper(StokeError):
    pass


class NotKept(StokeError):
    pass


class Shared(StokeError):
    pass


class NoText(StokeError):
    pass


class NoLine(StokeError):
    pass


class NoName(StokeError):
    pass


class Twice(StokeError):
    pass


class NoRoom(StokeError):
    def __init__(self, room):
        self.room = room


class NoShare(StokeError):
    def __init__(self, room):
        self.room = room


class NoTurn(StokeError):
    def __init__(self, room, turn):
        self.room = room
        self.turn = turn


class NoBand(StokeError):
    def __init__(self, room, turn):
        self.room = room
        self.turn = turn
