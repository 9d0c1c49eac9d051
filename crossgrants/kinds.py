"""What kind of thing a value is."""


def is_number(thing):
    """Whether it is a whole number; Python counts True and False as such, the program never does."""
    return isinstance(thing, int) and not isinstance(thing, bool)


def is_place(thing, many):
    """Whether it is one of so many places, counted from 0."""
    return is_number(thing) and 0 <= thing < many


def is_rising(numbers):
    """Whether each is more than the one ahead of it."""
    return all([one < following for one, following in zip(numbers, numbers[1:])])
