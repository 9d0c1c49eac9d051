"""What kind of thing a value is."""


def is_number(thing):
    """Whether it is a whole number; Python counts True and False as such, the program never does."""
    return isinstance(thing, int) and not isinstance(thing, bool)


def is_between(thing, least, most):
    """Whether it is a number from the least to the most."""
    return is_number(thing) and least <= thing <= most


def is_place(thing, many):
    """Whether it is one of so many places, counted from 0."""
    return is_between(thing, 0, many - 1)


def is_rising(numbers):
    """Whether each is more than the one ahead of it."""
    return all([one < following for one, following in zip(numbers, numbers[1:])])


def are_unlike(numbers):
    """Whether none stands there twice."""
    return len(set(numbers)) == len(numbers)


def is_list_or_tuple(thing):
    """Whether it is a list or a tuple."""
    return isinstance(thing, (list, tuple))


def is_same(one, other):
    """Whether both are equal and of the same kinds all through; to Python's own sign True is 1."""
    if is_list_or_tuple(one) and is_list_or_tuple(other):
        alike = isinstance(one, list) == isinstance(other, list) and len(one) == len(other)
        return alike and all([is_same(part, counterpart) for part, counterpart in zip(one, other)])
    return isinstance(one, bool) == isinstance(other, bool) and one == other
