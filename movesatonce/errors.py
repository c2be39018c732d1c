"""The refusals, each one directly under MoveError."""


class MoveError(ValueError):
    """Any refusal."""


class BadLead(MoveError):
    """A count of boxes beyond 1 to 10, or no lead of that many boxes."""


class BadSpare(MoveError):
    """Spares that a lead doesn't leave free, told twice, or that there aren't."""


class BadMove(MoveError):
    """A move that can't be: its number, from 0."""

    def __init__(self, number):
        super().__init__(f"move {number} can't be")
        self.number = number


class NoWay(MoveError):
    """No copies do a lead beside its spares."""


class BadWord(MoveError):
    """Neither "copies" nor "swaps"."""


class BadHouse(MoveError):
    """No rules of a house."""


class BadCall(MoveError):
    """No call by the rules of a house."""


class BadText(MoveError):
    """A text that is no written lead: the place, from 0, of its first wrong word."""

    def __init__(self, place):
        super().__init__(f"word {place} is no pair")
        self.place = place
