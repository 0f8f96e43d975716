"""The refusals: one class for each, so that a caller can tell them apart."""


class HaltError(ValueError):
    pass


class BadLine(HaltError):
    pass


class BadTrains(HaltError):
    pass


class BadOrders(HaltError):
    pass


class BadTable(HaltError):
    pass


class Sticks(HaltError):
    pass


class TooSoon(HaltError):
    pass


class TooMany(HaltError):
    pass


class BadText(HaltError):
    pass
