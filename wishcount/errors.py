"""The refusals of the program, one class for each."""


class WishError(ValueError):
    pass


class NoBallot(WishError):
    pass
