"""The refusals: one class for each, every one straight beneath GardenError."""


class GardenError(ValueError):
    pass


class BadPot(GardenError):
    pass


class BadRow(GardenError):

    def __init__(self, row):
        GardenError.__init__(self, f"row {row} is refused")
        self.row = row


class TooMany(GardenError):
    pass


class NoState(GardenError):
    pass


class NoPot(GardenError):
    pass


class BadDay(GardenError):

    def __init__(self, day):
        GardenError.__init__(self, f"day {day} is refused")
        self.day = day
