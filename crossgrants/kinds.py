"""What kind of thing a value is."""


def is_number(thing):
    """Whether it is a whole number; Python counts True and False as such, the program never does."""
    return isinstance(thing, int) and not isinstance(thing, bool)
