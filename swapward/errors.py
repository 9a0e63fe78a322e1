"""The refusals: one class for each, all of them straight under SwapError."""

# No class here calls its base's __init__: Python itself keeps the values that
# an error was made with, so that it can be shown and copied.


class SwapError(ValueError):
    pass


class NoRow(SwapError):
    def __init__(self, row):
        self.row = row


class NoCouple(SwapError):
    def __init__(self, couple):
        self.couple = couple


class OldCouple(SwapError):
    def __init__(self, couple):
        self.couple = couple


class NoSwap(SwapError):
    def __init__(self, one, other):
        self.one = one
        self.other = other


class OldSwap(SwapError):
    def __init__(self, one, other):
        self.one = one
        self.other = other


class TooMany(SwapError):
    def __init__(self, words):
        self.words = words
