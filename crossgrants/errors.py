"""The refusals, each with what is refused as its one field.

They share no base of their own: none may be caught as another.
"""


class BadSize(ValueError):
    """A number of inlets or outlets that there can't be."""

    def __init__(self, what):
        self.what = what


class BadShares(ValueError):
    """Shares that an outlet can't have, or shares for more or fewer outlets."""

    def __init__(self, what):
        self.what = what


class BadRow(ValueError):
    """A text that is no row of the desk, or that can't be done there."""

    def __init__(self, what):
        self.what = what


class BadDeed(TypeError):
    """A thing that is no deed."""

    def __init__(self, what):
        self.what = what


class NoInlet(IndexError):
    """An inlet that there isn't."""

    def __init__(self, what):
        self.what = what


class NoOutlet(IndexError):
    """An outlet that there isn't."""

    def __init__(self, what):
        self.what = what


class NoAsk(KeyError):
    """A pair of inlet and outlet that the table has no ask of."""

    def __init__(self, what):
        self.what = what


class NoCell(KeyError):
    """The number of a cell that never came."""

    def __init__(self, what):
        self.what = what


class TooMuch(ArithmeticError):
    """A load beyond its beats."""

    def __init__(self, what):
        self.what = what


class TooMany(OverflowError):
    """More cells than may come in all."""

    def __init__(self, what):
        self.what = what


class Already(RuntimeError):
    """A place that is out, or in, as it is asked to be."""

    def __init__(self, what):
        self.what = what


class Busy(RuntimeError):
    """A run within as many runs as may be under way."""

    def __init__(self, what):
        self.what = what
