"""Pointers that turn: who is granted, who is accepted, and how an outlet's pointer goes on."""


def first_from(marks, place):
    """The first place that is marked with 1, from this place on, behind the last one the first."""
    for step in range(len(marks)):
        turning = (place + step) % len(marks)
        if marks[turning] == 1:
            return turning
    return None


def granted(asking, pointer):
    """The inlet that an outlet with this pointer grants, None where none asks."""
    place, count = pointer
    return first_from(asking, place)


def accepted(granting, place):
    """The outlet that an inlet with this place accepts, None where none grants."""
    return first_from(granting, place)


def passed(pointer, inlet, shares):
    """The pointer when a grant to this inlet was accepted."""
    place, count = pointer
    many = count + 1 if place == inlet else 1
    if many < shares[inlet]:
        return (inlet, many)
    return ((inlet + 1) % len(shares), 0)
