"""The refusals: every one is a RoundError, none is under another one."""


class RoundError(ValueError):
    """Any refusal."""


class BadClubs(RoundError):
    """There are not 2 to 20 clubs."""


class BadRounds(RoundError):
    """These are not rounds of so many clubs."""


class BadClub(RoundError):
    """There is no such club, or one club stands where two are needed."""


class BadOrder(RoundError):
    """An order does not name each round once."""


class BadText(RoundError):
    """A text does not tell rounds of so many clubs."""


class NothingDone(RoundError):
    """No deed stands that could be taken back."""
