"""The refusals of the program, each under MeetError."""


class MeetError(ValueError):
    pass


class NoValue(MeetError):
    pass


class NoSet(MeetError):
    pass


class NoTelling(MeetError):
    pass


class NoNumber(MeetError):
    pass


class NoRow(MeetError):
    pass
